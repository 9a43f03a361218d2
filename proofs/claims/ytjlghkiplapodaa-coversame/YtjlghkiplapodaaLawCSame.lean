import Derived.Test.YtjlghkiplapodaaLawCCovers
namespace Go.Proofs.Ytjlghkiplapodaa
open Go Go.RowKit

theorem covB_true {R : Option (List (List Int × List Int))} (h : covB R = true) : R = some [] := by
  match R, h with
  | some [], _ => rfl
theorem each_has (L : List (List Int × List Int)) (m : Int) (H : List Int) : ∀ C : List (List Int × List Int), (eachR L m C).1 = true → hasL C H = true → hasL L H = true
  | [], _, h => by simp [hasL] at h
  | c :: C, h, hc => by
    rw [eachR] at h
    split at h
    · rename_i hcov
      have h1 : hasL (c :: C) H = (has c.1 c.2 H || hasL C H) := by simp [hasL]
      rw [h1] at hc
      cases hx : has c.1 c.2 H
      · rw [hx, Bool.false_or] at hc
        exact each_has L m H C h hc
      · have h2 := cnt_leftC H c.1 c.2 L [] (bnd m) (covB_true hcov)
        rw [hx] at h2
        cases hl : hasL L H
        · rw [hl] at h2; simp [cnt] at h2
        · rfl
    · cases h
theorem same_has (A B : List (List Int × List Int)) (m : Int) (H : List Int) (h : (sameR A B m).1 = true) : hasL A H = hasL B H := by
  unfold sameR at h
  split at h
  · rename_i h1
    rw [Bool.eq_iff_iff]
    exact ⟨each_has B m H A h1, each_has A m H B h⟩
  · cases h
theorem each_own (L : List (List Int × List Int)) (m : Int) : ∀ C : List (List Int × List Int), (∀ c ∈ C, c ∈ L) → eachR L m C = (true, 0) ∨ eachR L m C = (false, 4)
  | [], _ => .inl rfl
  | c :: C, h => by
    rw [eachR]
    cases hR : leftC c.1 c.2 L (bnd m) with
    | none => exact .inr rfl
    | some R =>
      match R, hR with
      | [], _ =>
        rw [if_pos (show covB (some []) = true from rfl)]
        exact each_own L m C fun d hd => h d (by simp [hd])
      | d :: R, hR =>
        exfalso
        have h1 := outH_in c.1 c.2 L _ d R hR
        have h2 : hasL L (outH (some (d :: R))) = true := by
          unfold hasL
          rw [List.any_eq_true]
          exact ⟨c, h c (by simp), h1.1⟩
        rw [h1.2] at h2
        cases h2
theorem same_own (A : List (List Int × List Int)) (m : Int) : sameR A A.reverse m = (true, 0) ∨ sameR A A.reverse m = (false, 4) := by
  unfold sameR
  rcases each_own A.reverse m A fun c hc => by simpa using hc with h | h
  · rw [h, if_pos rfl]
    exact each_own A m A.reverse fun c hc => by simpa using hc
  · rw [h]; exact .inr rfl

set_option maxHeartbeats 8000000 in
set_option maxRecDepth 100000 in
theorem lawSame_any (A B : List (List Int × List Int)) (H : List Int) (hH : Byt H) (va vb : Value) (w : World) (ha : Sl w va A) (hb : Sl w vb B) :
    Calls Try.prog 8 #[va, vb, .agg (hv H)] w fun e w' => e = .returned (.bool true) ∧ Below w.heap.size w w' := by
  obtain ⟨oa, ca, rfl, hca, _⟩ := ha.slice
  obtain ⟨ob, cb, rfl, hcb, _⟩ := hb.slice
  obtain ⟨na, hna⟩ : ∃ n, n = A.length := ⟨_, rfl⟩
  obtain ⟨nb, hnb⟩ : ∃ n, n = B.length := ⟨_, rfl⟩
  rw [← hna] at ha hca ⊢
  rw [← hnb] at hb hcb ⊢
  have HA : Hid (Sl w (.slice oa na ca) A) := ha
  have HB : Hid (Sl w (.slice ob nb cb) B) := hb
  have hHl := hH.1
  have HH : Hid (Byt H) := hH
  clear ha hb hna hnb hH
  go_enter Try.func8, Try.ntmps8
  go_wp2_with fail
  refine (awake3_any _).mono ?_
  rintro e w1 ⟨rfl, hb1⟩
  have g0 : w1.heap[w.heap.size]? = some (.cells (hv H) 24 (0, 0)) := by rw [hb1.block _ (by simp)]; exact heap_new _ _ _ rfl
  have B1 : Below w.heap.size w w1 := ((Below.refl _ _).alloc (Nat.le_refl _) _).trans (hb1.mono (by simp))
  clear hb1
  obtain ⟨k, hk⟩ : ∃ k, k = min na 40 := ⟨_, rfl⟩
  obtain ⟨l, hl⟩ : ∃ l, l = min nb 40 := ⟨_, rfl⟩
  have hk40 : k ≤ 40 := by omega
  have hkc : k ≤ ca := by omega
  have hl40 : l ≤ 40 := by omega
  have hlc : l ≤ cb := by omega
  have hkn : k ≤ na := by omega
  have hln : l ≤ nb := by omega
  have HKM : Hid (k = min na 40) := hk
  have HLM : Hid (l = min nb 40) := hl
  have HA1 : Hid (Sl w1 (.slice oa k ca) (A.take k)) := (HA.out.below B1).cut k hk
  have HB1 : Hid (Sl w1 (.slice ob l cb) (B.take l)) := (HB.out.below B1).cut l hl
  obtain ⟨D, hD⟩ : ∃ D, D = A.take k := ⟨_, rfl⟩
  obtain ⟨E, hE⟩ : ∃ E, E = B.take l := ⟨_, rfl⟩
  have HDL : Hid (D.length ≤ 1000000) := by show _ ≤ _; rw [hD]; exact cut_len hk40
  have HEL : Hid (E.length ≤ 1000000) := by show _ ≤ _; rw [hE]; exact cut_len hl40
  rw [← hD] at HA1
  rw [← hE] at HB1
  have HDK : Hid (k = D.length) := HA1.out.len.1
  clear hk hl hD hE HA HB
  obtain ⟨S, hS⟩ : ∃ S, S = sameR D E 500 := ⟨_, rfl⟩
  have D1 : Hid (∀ W, Sl W (.slice oa k ca) D → Sl W (.slice ob l cb) E → Calls Try.prog 22 #[.slice oa k ca, .slice ob l cb, .int .i64 500] W fun e w' => e = .returned (.tuple #[.bool S.1, .int .i64 S.2]) ∧ Below W.heap.size W w') := by rw [hS]; exact fun W h1 h2 => csame_any D E HDL.out HEL.out 500 _ _ W h1 h2
  have D2 : Hid (∀ W, Sl W (.slice oa k ca) D → Sl W (.slice ob l cb) E → Calls Try.prog 23 #[.slice oa k ca, .slice ob l cb, .int .i64 500] W fun e w' => e = .returned (.tuple #[.bool S.1, .int .i64 S.2]) ∧ Below W.heap.size W w') := by rw [hS]; exact fun W h1 h2 => rsame_any D E HDL.out HEL.out 500 _ _ W h1 h2
  have HSM : Hid (S.1 = true → hasL D H = hasL E H) := fun h => same_has D E 500 H (by rw [← hS]; exact h)
  have D3 : Hid (∀ W, Sl W (.slice oa k ca) D → Calls Try.prog 10 #[.slice oa k ca, .agg (hv H)] W fun e w' => e = .returned (.bool (hasL D H)) ∧ Below W.heap.size W w') := fun W h => chas_any D H HH.out HDL.out _ W h
  have D4 : Hid (∀ W, Sl W (.slice ob l cb) E → Calls Try.prog 10 #[.slice ob l cb, .agg (hv H)] W fun e w' => e = .returned (.bool (hasL E H)) ∧ Below W.heap.size W w') := fun W h => chas_any E H HH.out HEL.out _ W h
  obtain ⟨x, y⟩ := S
  have hyy : (y != y) = false := by simp
  clear hS
  go_wp2_with (first
    | (refine wl_min rfl _ _ rfl na k rfl rfl HKM.out ?_)
    | (refine wl_min rfl _ _ rfl nb l rfl rfl HLM.out ?_))
  clear HKM HLM hkn hln hca hcb
  refine (D1.out _ HA1.out HB1.out).mono ?_
  rintro e w2 ⟨rfl, hb2⟩
  have g2 : w2.heap[w.heap.size]? = some (.cells (hv H) 24 (0, 0)) := by rw [hb2.block _ (Array.getElem?_eq_some_iff.1 g0).1]; exact g0
  have B2 := B1.trans (hb2.mono B1.size)
  have HA2 : Hid (Sl w2 (.slice oa k ca) D) := HA1.out.below hb2
  have HB2 : Hid (Sl w2 (.slice ob l cb) E) := HB1.out.below hb2
  clear hb2 D1 g0 B1 HA1 HB1
  go_wp2_with fail
  refine (D2.out _ HA2.out HB2.out).mono ?_
  rintro e w3 ⟨rfl, hb3⟩
  have g3 : w3.heap[w.heap.size]? = some (.cells (hv H) 24 (0, 0)) := by rw [hb3.block _ (Array.getElem?_eq_some_iff.1 g2).1]; exact g2
  have B3 := B2.trans (hb3.mono B2.size)
  have HA3 : Hid (Sl w3 (.slice oa k ca) D) := HA2.out.below hb3
  have HB3 : Hid (Sl w3 (.slice ob l cb) E) := HB2.out.below hb3
  clear hb3 D2 g2 B2 HA2 HB2
  go_wp2_with fail
  have ne1 := Later.ne w3
  refine region_cut (fun a a' w' => ∃ y39 y40 y41 y42 y43 y44 y45 y46 y47 y48 y49 y50 y51 y52 y53 y54 y55 y56 y57, a' = ((((((((((((((((((((a.put (some 39) y39).put (some 40) y40).put (some 41) y41).put (some 42) y42).put (some 43) y43).put (some 44) y44).put (some 45) y45).put (some 46) y46).put (some 47) y47).put (some 48) y48).put (some 49) y49).put (some 50) y50).put (some 51) y51).put (some 52) y52).put (some 53) y53).put (some 54) y54).put (some 55) y55).put (some 56) y56).put (some 57) y57).put (some 58) (.bool false)) ∧ Below w3.heap.size w3 w') ?_ ?_
  · cases x
    · refine wp_region_later (by kernel_rfl) (by kernel_rfl) ?_
      go_big_quiet_step (fail)
      go_big_quiet_step (fail)
      go_big_quiet_step (fail)
      go_big_quiet_step (fail)
      go_big_quiet_step (fail)
      go_big_quiet_step (fail)
      go_big_quiet_step (fail)
      go_big_quiet_step (fail)
      go_big_quiet_step (fail)
      go_big_quiet_step (fail)
      go_big_quiet_step (fail)
      go_big_quiet_step (fail)
      go_big_quiet_step (fail)
      go_big_quiet_step (fail)
      go_big_quiet_step (fail)
      go_big_quiet_step (fail)
      go_big_quiet_step (fail)
      go_big_quiet_step (fail)
      go_big_quiet_step (fail)
      go_big_quiet_step (fail)
      refine wpQuiet_nil ?_
      rintro w' ⟨u, rfl⟩
      simp only [Act.put, List.setIfInBounds_toArray, List.set_cons_succ, List.set_cons_zero]
      exact ⟨by first | rfl | trivial, _, _, _, _, _, _, _, _, _, _, _, _, _, _, _, _, _, _, _, rfl, u.below⟩
    · obtain ⟨s, hs⟩ : ∃ s, s = hasL E H := ⟨_, rfl⟩
      rw [HSM.out rfl, ← hs] at D3
      rw [← hs] at D4
      have hss : (s != s) = false := by simp
      clear hs
      refine wp_region_later (by kernel_rfl) (by kernel_rfl) ?_
      go_big_quiet_step (fail)
      go_big_quiet_step (fail)
      go_big_quiet_step (fail)
      go_big_quiet_step (fail)
      go_big_quiet_step (fail)
      go_big_quiet_step (fail)
      go_big_quiet_step (fail)
      go_big_quiet_step (fail)
      go_big_quiet_step (fail)
      go_big_quiet_step (fail)
      go_big_quiet_step (fail)
      go_big_quiet_step (fail)
      refine qlH rfl _ rfl w.heap.size rfl H g3 hHl ?_
      simp only [Act.put, List.setIfInBounds_toArray, List.set_cons_succ, List.set_cons_zero]
      go_big_quiet_want; go_big_quiet_op
      refine ⟨_, fun u => Calls.later_of (D3.out u.world (HA3.out.below u.below)), ?_⟩
      go_big_quiet_on
      go_big_quiet_step (fail)
      refine qlH rfl _ rfl w.heap.size rfl H g3 hHl ?_
      simp only [Act.put, List.setIfInBounds_toArray, List.set_cons_succ, List.set_cons_zero]
      go_big_quiet_want; go_big_quiet_op
      refine ⟨_, fun u => Calls.later_of (D4.out u.world (HB3.out.below u.below)), ?_⟩
      go_big_quiet_on
      go_big_quiet_step (fail)
      go_big_quiet_step (fail)
      go_big_quiet_step (fail)
      refine wpQuiet_nil ?_
      rintro w' ⟨u, rfl⟩
      exact ⟨by first | rfl | trivial, _, _, _, _, _, _, _, _, _, _, _, _, _, _, _, _, _, _, _, rfl, u.below⟩
  rintro a' w4 ⟨y39, y40, y41, y42, y43, y44, y45, y46, y47, y48, y49, y50, y51, y52, y53, y54, y55, y56, y57, rfl, hb4⟩
  simp only [Act.put, List.setIfInBounds_toArray, List.set_cons_succ, List.set_cons_zero]
  have B4 := B3.trans (hb4.mono B3.size)
  have HA4 : Hid (Sl w4 (.slice oa k ca) D) := HA3.out.below hb4
  clear hb4 B3 HA3 HB3 g3 D3 D4 HSM ne1 hyy
  obtain ⟨w0, hw0⟩ : ∃ W, W = w4.alloc (.cells #[] 30) := ⟨_, rfl⟩
  have own0 : w0.ownsRow w4.heap.size 30 26 (.slice (some ⟨w4.heap.size, 0, none⟩) 0 0) 0 [] := by
    rw [hw0]
    exact ⟨rfl, Or.inr ⟨w4.heap.size, 0, #[], rfl, Nat.le_refl _, heap_new _ _ _ rfl, Nat.le_refl _, by decide, rfl, rfl⟩⟩
  have b0' : Below w4.heap.size w4 w0 := by rw [hw0]; exact (Below.refl _ _).alloc (Nat.le_refl _) _
  have HD0 : Hid (D.drop k = []) := by show _ = _; rw [HDK.out, List.drop_length]
  have DS : Hid (∀ (u : Value) (W : World), Sl W (.slice oa k ca) D → Sl W u D.reverse → Calls Try.prog 22 #[.slice oa k ca, u, .int .i64 1000] W fun e w' => e = .returned (.tuple #[.bool (sameR D D.reverse 1000).1, .int .i64 (sameR D D.reverse 1000).2]) ∧ Below W.heap.size W w') := fun u W h1 h2 => csame_any D D.reverse HDL.out (by rw [List.length_reverse]; exact HDL.out) 1000 _ u W h1 h2
  have HBR : Hid (Byts D.reverse) := fun c hc => HA4.out.byts c (by simpa using hc)
  have HSO : Hid (sameR D D.reverse 1000 = (true, 0) ∨ sameR D D.reverse 1000 = (false, 4)) := same_own D 1000
  go_wp2_with fail
  rw [← hw0]
  clear hw0
  go_loopw [11, 12] (fun bk i wr => ∃ x : Nat, x ≤ k ∧ i = .int .i64 ((x : Int) - 1) ∧ wr.ownsRow w4.heap.size 30 26 bk (D.drop x).reverse.length (ccells (D.drop x).reverse) ∧ Below w4.heap.size w4 wr) (fun _ i _ => (intOf i + 1).toNat)
  case atStart => exact ⟨k, Nat.le_refl _, rfl, by rw [HD0.out]; exact own0, b0'⟩
  case round =>
    clear own0 b0' HD0
    obtain ⟨x, hx, rfl, hown, hb⟩ := hrel
    have zo := hb.size
    have HA5 : Hid (Sl wr (.slice oa k ca) D) := HA4.out.below hb
    by_cases hx0 : 0 < x
    · obtain ⟨x', rfl⟩ : ∃ x', x = x' + 1 := ⟨x - 1, by omega⟩
      rw [show ((x' + 1 : Nat) : Int) - 1 = (x' : Int) by omega]
      obtain ⟨g, off, cur, t, fr, U, N, rfl, hg, hcc, hCk, hU, hN⟩ := HA5.out.at x' (by omega)
      have hUl := hU.1
      have hNl := hN.1
      have HE : Hid (∀ i, i < 26 → cur[off + x' * 26 + i]? = (cv U N)[i]?) := hcc
      have HRV : Hid ((D.drop x').reverse = (D.drop (x' + 1)).reverse ++ [(U, N)]) := by
        show _ = _
        obtain ⟨h1, h2⟩ := List.getElem?_eq_some_iff.1 hCk
        rw [List.drop_eq_getElem_cons h1, h2, List.reverse_cons]
      have hdl : (D.drop (x' + 1)).reverse.length ≤ 40 := by rw [List.length_reverse, List.length_drop, ← HDK.out]; omega
      obtain ⟨DE, hDE⟩ : ∃ DE, DE = (D.drop (x' + 1)).reverse := ⟨_, rfl⟩
      rw [← hDE] at hown hdl HRV
      have OWN : Hid (wr.ownsRow w4.heap.size 30 26 u11 DE.length (ccells DE)) := hown
      have hcl : (cv U N).toList.length = 1 * 26 := by rw [Array.length_toList, cv_size _ _ hUl hNl]
      have hco : ∀ u ∈ (cv U N).toList, u.oneCell' = true := fun u hu => (Array.all_eq_true_iff_forall_mem.1 (cv_one U N)) u (by simpa using hu)
      obtain ⟨i0, hi0, hz0', hz1', hz2'⟩ := infoC
      clear hcc hCk hU hN hDE hown
      go_wp2_with (first
        | (refine wl_loadCat rfl _ rfl g (off + x' * 26) rfl cur t fr U N hUl hNl hg HE.out ?_)
        | (refine wl_build1 rfl _ rfl U N hUl hNl rfl ?_)
        | (at_builtin; refine of_stopped ?_))
      unfold Stopped
      refine wpList_append_own _ rfl _ _ 22 rfl w4.heap.size 30 i0 (.agg zeroC) 26 26 Try.underlying22 hi0 hz0' hz1' hz2' rfl (by decide) _ _ _ rfl (OWN.out.alloc _) ⟨wr.heap.size, 0, none⟩ 1 1 (cv U N).toList rfl hcl (cells_new wr _ _) hco (by unfold maxLen; omega) (by omega) (by simp; omega) ?_
      intro v' w7 hown' hgrow7 hnil7
      have B7 : Below w4.heap.size w4 w7 := (hb.alloc zo _).grown hgrow7 (by simp; omega) (fun q hq => (OWN.out.lt q hq).1)
      have OWN7 : Hid (w7.ownsRow w4.heap.size 30 26 v' (D.drop x').reverse.length (ccells (D.drop x').reverse)) := by
        show World.ownsRow _ _ _ _ _ _ _
        rw [HRV.out, ccells_append, ccells_one, List.length_append]; exact hown'
      clear hown' hgrow7 hnil7 hcl hco hi0 hz0' hz1' hz2' hg
      simp only [Act.put, List.setIfInBounds_toArray, List.set_cons_succ, List.set_cons_zero]
      go_wp2_with fail
      go_roundw
      case rel => exact ⟨x', by omega, by go_num, OWN7.out, B7⟩
      case measure => simp [intOf]
    · obtain rfl : x = 0 := by omega
      have HSB : Hid (Sl wr u11 D.reverse) := sl_of hown HBR.out
      have B5 := B4.trans (hb.mono B4.size)
      clear hown hb
      go_wp2_with fail
      refine (DS.out _ _ HA5.out HSB.out).mono ?_
      rintro e w8 ⟨rfl, hb8⟩
      have B8 := B5.trans (hb8.mono B5.size)
      clear hb8 DS
      rcases HSO.out with h | h
      · rw [h]
        clear h HSO
        go_wp2_with (first
          | go_skip)
        go_ret
        exact ⟨rfl, B8⟩
      · rw [h]
        clear h HSO
        go_wp2_with (first
          | go_skip)
        go_ret
        exact ⟨rfl, B8⟩
end Go.Proofs.Ytjlghkiplapodaa
