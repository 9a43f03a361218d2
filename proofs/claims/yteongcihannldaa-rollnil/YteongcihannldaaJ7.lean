import Derived.Test.YteongcihannldaaJ6
namespace Go.Proofs.Yteongcihannldaa
open Go Go.RowKit
set_option maxRecDepth 20000

theorem hearF_no {d : RfM} {s inc : Int} (h : ¬ (isF d s = true ∧ 1 ≤ inc ∧ lifeF d s ≤ inc)) (now : Int) : hearF d s inc now = (d, false) := by unfold hearF; exact if_neg h
theorem hearF_yes {d : RfM} {s inc : Int} (h : isF d s = true ∧ 1 ≤ inc ∧ lifeF d s ≤ inc) (now : Int) : hearF d s inc now = (addF21 (if lifeF d s < inc then bornF d s inc else d) ⟨s, 1, 0, clockR now⟩, true) := by unfold hearF; exact if_pos h
set_option maxHeartbeats 4000000 in
theorem rHear_no (B : Nat) (w : World) (r : Nat) (d : RfM) (vl vw : Value) (h : RfV B w r d vl vw) (h6 : d.count ≤ 6) (s inc now : Int) (hc : ¬ (isF d s = true ∧ 1 ≤ inc ∧ lifeF d s ≤ inc)) : Calls Try.prog 10 #[.pointer (some ⟨r, 0, none⟩), .int .i64 s, .int .i64 inc, .int .i64 now] w fun e w' => e = .returned (.bool false) ∧ w' = w := by
  have HI := rIs_any w r d h.f.c0 s
  have c1 := h.f.c1
  cases hs : isF d s with
  | false =>
    rw [hs] at HI
    clear h c1 hc
    go_enter Try.func10, Try.ntmps10
    go_wp2_with (go_at_call 30; refine HI.mono ?_; rintro e w1 ⟨rfl, q⟩; subst q)
    go_ret
    exact ⟨rfl, rfl⟩
  | true =>
    rw [hs] at HI hc
    have hs6 := isF_in h6 hs
    by_cases i1 : inc < 1
    · clear h c1 hc
      go_enter Try.func10, Try.ntmps10
      go_wp2_with (go_at_call 30; refine HI.mono ?_; rintro e w1 ⟨rfl, q⟩; subst q)
      go_ret
      exact ⟨rfl, rfl⟩
    · obtain ⟨gl, cl, e, k1, k2, k3, _⟩ := h.lcell hs6
      rw [e] at c1
      have i2 : inc < lifeF d s := by
        rcases Int.lt_or_le inc (lifeF d s) with q | q
        · exact q
        · exact absurd ⟨rfl, by omega, q⟩ hc
      obtain ⟨L, hL⟩ : ∃ L, L = lifeF d s := ⟨_, rfl⟩
      rw [← hL] at k3 i2
      obtain ⟨j, hj⟩ : ∃ j : Nat, s = (j : Int) := ⟨s.toNat, by omega⟩
      subst hj
      have z1 : ¬ (j : Int) < 0 := by omega
      have z2 : (j : Int) < 7 := by omega
      rw [show ((j : Int)).toNat = j by omega] at k3
      unfold maxLen at k2
      clear h hs e hL h6 hs6 hc
      go_enter Try.func10, Try.ntmps10
      go_wp2_with (go_at_call 30; refine HI.mono ?_; rintro e w1 ⟨rfl, q⟩; subst q)
      go_ret
      exact ⟨rfl, rfl⟩
/-- What one word more wants, in a region that draws. -/
structure AddD (B : Nat) (w W : World) (r : Nat) (o : Option Addr) (q cap : Nat) (d : RfM) (vl vw : Value) (s t : Int) : Prop where
  c0 : W.drew.cell? ⟨r, 2, none⟩ = some (.slice o q cap)
  c5 : (W.alloc (.cells #[.int .i64 s, .int .i64 1, .int .i64 0, .int .i64 t] 59)).cell? ⟨r, 2, none⟩ = some (.slice o q cap)
  own : (W.drew.alloc (.cells #[.int .i64 s, .int .i64 1, .int .i64 0, .int .i64 t] 59)).ownsRow B 59 4 (.slice o q cap) d.words.length (gcells wdV d.words)
  hB : B ≤ (W.drew.alloc (.cells #[.int .i64 s, .int .i64 1, .int .i64 0, .int .i64 t] 59)).heap.size
  nx : ∀ w3 u, w3.ownsRow B 59 4 u (d.words ++ [(⟨s, 1, 0, t⟩ : WdM)]).length (gcells wdV (d.words ++ [(⟨s, 1, 0, t⟩ : WdM)])) → (W.drew.alloc (.cells #[.int .i64 s, .int .i64 1, .int .i64 0, .int .i64 t] 59)).grownBy w3 (Value.slice o q cap).ownBlock → (u.ownBlock = (Value.slice o q cap).ownBlock ∨ u.ownBlock = some (W.drew.alloc (.cells #[.int .i64 s, .int .i64 1, .int .i64 0, .int .i64 t] 59)).heap.size) →
    w3.cell? ⟨r, 2, none⟩ = some (.slice o q cap) ∧ w3.frozen? ⟨r, 2, none⟩ = false ∧ RfTo B w (w3.setCell ⟨r, 2, none⟩ u) r (addF21 d ⟨s, 1, 0, t⟩) vl vw
theorem addD_of {B : Nat} {w W : World} {r : Nat} {o : Option Addr} {q cap : Nat} {d : RfM} {vl ul vw : Value} (h : RfV B W r d ul (.slice o q cap)) (hF : Frm (footRf r vl vw) (footRf r ul (.slice o q cap)) w W) (s t : Int) : AddD B w W r o q cap d vl vw s t := by
  have hd : Below W.heap.size W W.drew := (Below.refl _ _).drew
  have G := addG_of (h.below hd) ⟨s, 1, 0, t⟩
  refine ⟨(h.below hd).f.c2, G.c2, G.own, G.hB, fun w3 u t1 t2 t3 => ?_⟩
  obtain ⟨z1, z2, xl, xw, z3, z4⟩ := G.nx w3 u t1 t2 t3
  exact ⟨z1, z2, xl, xw, z3, hF.trans (z4.pre hd)⟩
set_option maxHeartbeats 32000000 in
theorem rHear_yes (B : Nat) (w : World) (r : Nat) (d : RfM) (vl vw : Value) (h : RfV B w r d vl vw) (h6 : d.count ≤ 6) (hn : d.words.length ≤ 100000) (s inc now : Int) (hc : isF d s = true ∧ 1 ≤ inc ∧ lifeF d s ≤ inc) : Calls Try.prog 10 #[.pointer (some ⟨r, 0, none⟩), .int .i64 s, .int .i64 inc, .int .i64 now] w fun e w' => e = .returned (.bool true) ∧ RfTo B w w' r (addF21 (if lifeF d s < inc then bornF d s inc else d) ⟨s, 1, 0, clockR now⟩) vl vw := by
  obtain ⟨hs, i0, i1⟩ := hc
  have HI := rIs_any w r d h.f.c0 s
  rw [hs] at HI
  have hs6 := isF_in h6 hs
  obtain ⟨gl, cl, el, k1, k2, k3, k4⟩ := h.lcell hs6
  obtain ⟨o, cap, e, q1, q2⟩ := h.row.slice
  obtain ⟨q, hq⟩ : ∃ q, q = d.words.length := ⟨_, rfl⟩
  rw [← hq] at e q1
  rw [e, el] at h ⊢
  have HV : Hid (RfV B w r d (.slice (some ⟨gl, 0, none⟩) 7 cl) (.slice o q cap)) := h
  have HQ : Hid (q = d.words.length) := hq
  have HN : Hid (d.words.length ≤ 100000) := hn
  obtain ⟨L, hL⟩ : ∃ L, L = lifeF d s := ⟨_, rfl⟩
  have HLL : Hid (∀ W, RfV B W r d (.slice (some ⟨gl, 0, none⟩) 7 cl) (.slice o q cap) → W.cell? ⟨gl, s.toNat, none⟩ = some (.int .i64 (lifeF d s)) ∧ W.frozen? ⟨gl, s.toNat, none⟩ = false) := fun W hW => by
    obtain ⟨gl', cl', e', _, _, k3', k4'⟩ := hW.lcell hs6
    simp only [Value.slice.injEq, Option.some.injEq, Addr.mk.injEq] at e'
    obtain ⟨⟨rfl, _⟩, _⟩ := e'
    exact ⟨k3', k4'⟩
  rw [← hL] at k3 i1 HLL ⊢
  obtain ⟨j, hj⟩ : ∃ j : Nat, s = (j : Int) := ⟨s.toNat, by omega⟩
  subst hj
  have z1 : ¬ (j : Int) < 0 := by omega
  have z2 : (j : Int) < 7 := by omega
  rw [show ((j : Int)).toNat = j by omega] at k3 k4 HLL
  obtain ⟨t, ht⟩ : ∃ t, t = clockR now := ⟨_, rfl⟩
  have HC : Hid (∀ W, Calls Try.prog 31 #[.int .i64 now] W fun e w' => e = .returned (.int .i64 t) ∧ w' = W) := fun W => by rw [ht]; exact rClock_any W now
  rw [← ht]
  unfold maxLen at k2 q2
  have c1 := h.f.c1
  have c2 := h.f.c2
  have mixed : Try.prog.follows Departure.mixedOrders = true := by kernel_rfl
  have ni : ¬ inc < 1 := by omega
  have nl : ¬ inc < L := by omega
  by_cases i2 : inc > L
  case neg =>
    rw [if_neg (by omega)]
    have hG : AddD B w w r o q cap d (.slice (some ⟨gl, 0, none⟩) 7 cl) (.slice o q cap) j t := addD_of h (Frm.refl _ _) j t
    obtain ⟨g0, g5, g2, g3, g4⟩ := hG
    have G2 : Hid _ := g2
    have G3 : Hid _ := g3
    have G4 : Hid _ := g4
    have HN6 : Hid (d.words.length ≤ 1000000) := by show _ ≤ _; omega
    have HCw := HC.out w.drew
    clear h hs e el hq hn hL ht h6 hs6 g2 g3 g4 HC HLL HV HQ HN i0 i1
    go_enter Try.func10, Try.ntmps10
    go_wp2_with (go_at_call 30; refine HI.mono ?_; rintro e w1 ⟨rfl, z8⟩; have z8 := z8.symm; subst z8)
    clear HI c1 c2 k3 k4
    go_region_law_o (first
      | (refine step_call rfl 31 #[.tmp 86] (by intro b w; have hf := Try.func31; simp [go_sem]) #[.int .i64 now] (by simp [Act.eval, Act.put]) _ HCw (by rintro e w' ⟨h, _⟩; exact ⟨_, h⟩) ?_; rintro u0 w2 ⟨hu0, z9⟩; obtain rfl : u0 = Value.int .i64 t := (by simpa using hu0); clear hu0; subst z9)
      | (refine step_appE (E := WdE) WdOk wdV rfl (.tmp 84) (.tmp 89) rfl B (.slice o q cap) d.words ⟨j, 1, 0, t⟩ (wd_fits _) (by simp [Act.eval]) G2.out w.drew.heap.size 1 (by simp [Act.eval]) (heap_new _ _ _ rfl) HN6.out G3.out ?_; intro u0 w3 q1 q2 q3; obtain ⟨o2, n2, p2, rfl⟩ := wds_slice q1; obtain ⟨f1, f2, f3⟩ := G4.out w3 _ q1 q2 q3; have F3 : Hid _ := f3; clear q1 q2 q3 f3))
    all_goals
      go_wp2_with fail
      go_ret
      exact ⟨rfl, F3.out⟩
  rw [if_pos (by omega)]
  have HU0 : Hid (WdsAt w.heap.size (w.alloc (.cells #[] 59)) (.slice (some ⟨w.heap.size, 0, none⟩) 0 0) []) := wds0 w
  have HB0 : Hid (Below w.heap.size w (w.alloc (.cells #[] 59))) := (Below.refl _ _).alloc (Nat.le_refl _) _
  clear h hs e el hq hn hL ht h6 hs6 i0 i1
  go_enter Try.func10, Try.ntmps10
  go_wp2_with (first
    | (go_at_call 30; refine HI.mono ?_; rintro e w1 ⟨rfl, z8⟩; have z8 := z8.symm; subst z8)
    | ((with_reducible refine wl_geW rfl ?_); refine wl_build0W rfl rfl ?_))
  clear HI c1 c2 k3 k4
  go_loopw [9, 10] (fun s9 s10 wr => ∃ (i : Nat) (u : Value), i ≤ q ∧ s9 = u ∧ s10 = .int .i64 (i : Int) ∧ Hid (WdsAt w.heap.size wr u ((d.words.take i).filter fun x => x.s != (j : Int))) ∧ Hid (Below w.heap.size w wr)) (fun _ s10 _ => q - (intOf s10).toNat)
  case atStart => exact ⟨0, _, Nat.zero_le _, rfl, rfl, HU0, HB0⟩
  case round =>
    obtain ⟨i, u, hi, hu, rfl, HU, HB⟩ := hrel
    obtain ⟨o6, n6, c6, e6⟩ := wds_slice HU.out
    obtain rfl := hu
    subst e6
    have HVr : Hid (RfV B wr r d (.slice (some ⟨gl, 0, none⟩) 7 cl) (.slice o q cap)) := HV.out.below HB.out
    have c2 := HVr.out.f.c2
    by_cases hlt : i < q
    case neg =>
      obtain rfl : i = q := by omega
      have hlt' : ¬ (i : Int) < (i : Int) := by omega
      have hall : WdsAt w.heap.size wr (.slice o6 n6 c6) (d.words.filter fun x => x.s != (j : Int)) := by
        have := HU.out
        rw [HQ.out, List.take_length] at this
        exact this
      obtain ⟨y1, y2, y3, y4⟩ := HV.out.putW (Kept.of_below HB.out) _ (gown_base hall HV.out.hw) (.inr fun k e => (World.ownsRow.lt hall k e).1)
      obtain ⟨W1, hW1⟩ : ∃ W1, W1 = wr.setCell ⟨r, 2, none⟩ (.slice o6 n6 c6) := ⟨_, rfl⟩
      rw [← hW1] at y3 y4
      obtain ⟨x3, x4⟩ := y3.setL j inc
      obtain ⟨W2, hW2⟩ : ∃ W2, W2 = W1.setCell ⟨gl, j, none⟩ (.int .i64 inc) := ⟨_, rfl⟩
      rw [← hW2] at x3 x4
      have hG : AddD B w W2 r o6 n6 c6 (bornF d j inc) (.slice (some ⟨gl, 0, none⟩) 7 cl) (.slice o i cap) j t := addD_of x3 (y4.trans x4) j t
      obtain ⟨g0, g5, g2, g3, g4⟩ := hG
      have G2 : Hid _ := g2
      have G3 : Hid _ := g3
      have G4 : Hid _ := g4
      have HN6 : Hid ((bornF d j inc).words.length ≤ 1000000) := by
        have h1 := List.length_filter_le (fun x : WdM => x.s != (j : Int)) d.words
        have := HN.out
        show (d.words.filter _).length ≤ _
        omega
      have HCw := HC.out W2.drew
      have c1 := HVr.out.f.c1
      obtain ⟨k3, k4⟩ := HLL.out wr HVr.out
      have hne : gl ≠ r := fun q => HVr.out.lne (by unfold rowX; rw [q]; rfl)
      have HW2 : Hid ((wr.setCell ⟨r, 2, none⟩ (.slice o6 n6 c6)).setCell ⟨gl, j, none⟩ (.int .i64 inc) = W2) := by show _ = _; rw [hW2, hW1]
      clear y1 y3 y4 x3 x4 hall HU HVr hW1 hW2 g2 g3 g4 HC HLL HV HQ HN HB
      go_wp2_with fail
      rw [HW2.out]
      clear c1 c2 k3 k4 hne HW2
      go_region_law_o (first
        | (refine step_call rfl 31 #[.tmp 86] (by intro b w; have hf := Try.func31; simp [go_sem]) #[.int .i64 now] (by simp [Act.eval, Act.put]) _ HCw (by rintro e w' ⟨h, _⟩; exact ⟨_, h⟩) ?_; rintro u0 w2 ⟨hu0, z9⟩; obtain rfl : u0 = Value.int .i64 t := (by simpa using hu0); clear hu0; subst z9)
        | (refine step_appE (E := WdE) WdOk wdV rfl (.tmp 84) (.tmp 89) rfl B (.slice o6 n6 c6) (bornF d j inc).words ⟨j, 1, 0, t⟩ (wd_fits _) (by simp [Act.eval]) G2.out W2.drew.heap.size 1 (by simp [Act.eval]) (heap_new _ _ _ rfl) HN6.out G3.out ?_; intro u0 w3 q1 q2 q3; obtain ⟨o2, n2, p2, rfl⟩ := wds_slice q1; obtain ⟨f1, f2, f3⟩ := G4.out w3 _ q1 q2 q3; have F3 : Hid _ := f3; clear q1 q2 q3 f3))
      all_goals
        go_wp2_with fail
        go_ret
        exact ⟨rfl, F3.out⟩
    have hlt' : (i : Int) < (q : Int) := by omega
    obtain ⟨ga, offa, ca, cura, tya, fra, x, ev, hga, hcca, hxa, _⟩ := HVr.out.word (i := i) (by have := HQ.out; omega)
    simp only [Value.slice.injEq] at ev
    obtain ⟨rfl, hz9, rfl⟩ := ev
    clear hz9
    obtain ⟨k0, _, _, _⟩ := wdf_of (off := offa + i * 4) hga hcca
    obtain ⟨xs, hxs⟩ : ∃ xi, xi = x.s := ⟨_, rfl⟩
    have HS : Hid ((d.words.take (i + 1)).filter (fun x => x.s != (j : Int)) = (d.words.take i).filter (fun x => x.s != (j : Int)) ++ if (xs != (j : Int)) = true then [x] else []) := by show _ = _; rw [take_filter _ hxa, hxs]
    rw [← hxs] at k0
    have KGa : Hid (wr.heap[ga]? = some (.cells cura tya fra)) := hga
    have KCa : Hid (∀ j, j < 4 → cura[offa + i * 4 + j]? = (wdV x)[j]?) := hcca
    have HL : Hid (((d.words.take i).filter fun x => x.s != (j : Int)).length ≤ 1000000) := by
      have h1 := List.length_filter_le (fun x : WdM => x.s != (j : Int)) (d.words.take i)
      have h2 : (d.words.take i).length ≤ d.words.length := by rw [List.length_take]; omega
      have := HN.out
      show _ ≤ _
      omega
    clear hga hcca hxa hxs HVr
    by_cases hc : xs = (j : Int)
    · have b1 : (xs != (j : Int)) = false := by simp [hc]
      have HS2 : Hid (WdsAt w.heap.size wr (.slice o6 n6 c6) ((d.words.take (i + 1)).filter fun x => x.s != (j : Int))) := by show WdsAt _ _ _ _; rw [HS.out, b1]; simpa using HU.out
      clear hc HS HU
      go_wp2_with fail
      go_roundw
      case rel => exact ⟨i + 1, _, by omega, rfl, by go_num, HS2, HB⟩
      case measure => simp [intOf]; omega
    · have b1 : (xs != (j : Int)) = true := by simp [hc]
      have HS2 : Hid ((d.words.take (i + 1)).filter (fun x => x.s != (j : Int)) = (d.words.take i).filter (fun x => x.s != (j : Int)) ++ [x]) := by show _ = _; rw [HS.out, b1]; rfl
      have HUy : Hid (∀ ob, WdsAt w.heap.size (wr.alloc ob) (.slice o6 n6 c6) ((d.words.take i).filter fun x => x.s != (j : Int))) := fun ob => gown_below HU.out ((Below.refl _ _).alloc (Nat.le_refl _) _)
      have HBy : Hid (∀ ob, Below w.heap.size w (wr.alloc ob)) := fun ob => HB.out.alloc HB.out.size _
      clear hc HS HU
      go_wp2_with (first
        | ((with_reducible refine wl_glW _ rfl ?_); refine wl_loadE (E := WdE) WdOk rfl _ rfl ga (offa + i * 4) rfl cura tya fra (wdV x) rfl KGa.out KCa.out ?_)
        | ((with_reducible refine wl_gbW _ rfl ?_); refine wl_buildE (E := WdE) WdOk rfl _ rfl (wdV x) rfl rfl ?_)
        | (at_builtin; refine wl_appendE (E := WdE) WdOk wdV rfl _ _ rfl w.heap.size (.slice o6 n6 c6) _ x (wd_fits _) rfl (HUy.out _) _ 1 rfl (heap_new _ _ _ rfl) HL.out (HBy.out _).size ?_; intro v7 w7 t1 t2 t3; refine of_stopT ?_))
      unfold StopT
      have HU7 : Hid (WdsAt w.heap.size w7 v7 ((d.words.take (i + 1)).filter fun x => x.s != (j : Int))) := by show WdsAt _ _ _ _; rw [HS2.out]; exact t1
      have HB7 : Hid (Below w.heap.size w w7) := (HBy.out _).trans ((Below.refl _ _).grown t2 (HBy.out (.cells (wdV x) 59)).size fun k e => (World.ownsRow.lt (HUy.out (.cells (wdV x) 59)) k e).1)
      clear t1 t2 t3
      go_wp2_with fail
      go_roundw
      case rel => exact ⟨i + 1, v7, by omega, rfl, by go_num, HU7, HB7⟩
      case measure => simp [intOf]; omega
theorem rHear21_any (B : Nat) (w : World) (r : Nat) (d : RfM) (vl vw : Value) (h : RfV B w r d vl vw) (h6 : d.count ≤ 6) (hn : d.words.length ≤ 100000) (s inc now : Int) : Calls Try.prog 10 #[.pointer (some ⟨r, 0, none⟩), .int .i64 s, .int .i64 inc, .int .i64 now] w fun e w' => e = .returned (.bool (hearF d s inc now).2) ∧ RfTo B w w' r (hearF d s inc now).1 vl vw := by
  by_cases hc : isF d s = true ∧ 1 ≤ inc ∧ lifeF d s ≤ inc
  · rw [hearF_yes hc]
    exact rHear_yes B w r d vl vw h h6 hn s inc now hc
  · rw [hearF_no hc]
    refine (rHear_no B w r d vl vw h h6 s inc now hc).mono ?_
    rintro e w' ⟨rfl, rfl⟩
    exact ⟨rfl, h.stay (Below.refl _ _)⟩
end Go.Proofs.Yteongcihannldaa
namespace Go.Proofs.Yteongcihannldaa
open Go Go.RowKit
set_option maxRecDepth 20000

theorem rHave21_any (B : Nat) (w : World) (r : Nat) (d : RfM) (vl vw : Value) (h : RfV B w r d vl vw) (s ep : Int) : Calls Try.prog 21 #[.pointer (some ⟨r, 0, none⟩), .int .i64 s, .int .i64 ep] w fun e w' => e = .returned (.int .i64 (mostF d.words s 2 ep)) ∧ Below w.heap.size w w' := by
  have HM := rMost_any B w r d vl vw h s 2 ep
  generalize mostF d.words s 2 ep = m at HM ⊢
  clear h
  go_enter Try.func21, Try.ntmps21
  go_wp2_with (go_at_call 37; refine HM.mono ?_; rintro e w1 ⟨rfl, hb⟩)
  go_ret
  exact ⟨rfl, hb⟩
theorem rUse21_any (B : Nat) (w : World) (r : Nat) (d : RfM) (vl vw : Value) (h : RfV B w r d vl vw) (s : Int) : Calls Try.prog 23 #[.pointer (some ⟨r, 0, none⟩), .int .i64 s] w fun e w' => e = .returned (.int .i64 (mostF d.words s 3 0)) ∧ Below w.heap.size w w' := by
  have HM := rMost_any B w r d vl vw h s 3 0
  generalize mostF d.words s 3 0 = m at HM ⊢
  clear h
  go_enter Try.func23, Try.ntmps23
  go_wp2_with (go_at_call 37; refine HM.mono ?_; rintro e w1 ⟨rfl, hb⟩)
  go_ret
  exact ⟨rfl, hb⟩
set_option maxHeartbeats 8000000 in
theorem rIn21_any (B : Nat) (w : World) (r : Nat) (d : RfM) (vl vw : Value) (h : RfV B w r d vl vw) (h6 : d.count ≤ 6) (s now lost : Int) (hb : isF d s = true → 0 ≤ lastF d.words s ∧ lastF d.words s ≤ 1099511627776) : Calls Try.prog 19 #[.pointer (some ⟨r, 0, none⟩), .int .i64 s, .int .i64 now, .int .i64 lost] w fun e w' => e = .returned (.bool (inF d s now lost)) ∧ Below w.heap.size w w' := by
  have HI := rIs_any w r d h.f.c0 s
  have c1 := h.f.c1
  cases hs : isF d s with
  | false =>
    have e : inF d s now lost = false := by unfold inF; rw [hs]; rfl
    rw [e]
    rw [hs] at HI
    clear h c1 hb e
    go_enter Try.func19, Try.ntmps19
    go_wp2_with (go_at_call 30; refine HI.mono ?_; rintro e w1 ⟨rfl, q⟩; subst q)
    go_ret
    exact ⟨rfl, Below.refl _ _⟩
  | true =>
    rw [hs] at HI
    obtain ⟨hb1, hb2⟩ := hb hs
    have hs6 := isF_in h6 hs
    obtain ⟨gl, cl, el, k1, k2, k3, _⟩ := h.lcell hs6
    rw [el] at c1
    have eI : inF d s now lost = ((lifeF d s != 0) && decide (clockR now - lastF d.words s < lost)) := by unfold inF; rw [hs, Bool.true_and]
    rw [eI]
    obtain ⟨L, hL⟩ : ∃ L, L = lifeF d s := ⟨_, rfl⟩
    rw [← hL] at k3 ⊢
    obtain ⟨j, hj⟩ : ∃ j : Nat, s = (j : Int) := ⟨s.toNat, by omega⟩
    have z1 : ¬ s < 0 := by omega
    have z2 : s < 7 := by omega
    unfold maxLen at k2
    by_cases i0 : L = 0
    · have b0 : (L == 0) = true := by simp [i0]
      have b1 : (L != 0) = false := by simp [i0]
      rw [b1]
      subst hj
      rw [show ((j : Int)).toNat = j by omega] at k3
      clear h hs el hL eI i0 hs6
      go_enter Try.func19, Try.ntmps19
      go_wp2_with (go_at_call 30; refine HI.mono ?_; rintro e w1 ⟨rfl, q⟩; subst q)
      go_ret
      exact ⟨rfl, Below.refl _ _⟩
    have b0 : (L == 0) = false := by simp [i0]
    have b1 : (L != 0) = true := by simp [i0]
    rw [b1, Bool.true_and]
    obtain ⟨o, cap, e, q1, q2⟩ := h.row.slice
    obtain ⟨q, hq⟩ : ∃ q, q = d.words.length := ⟨_, rfl⟩
    have HV : Hid (RfV B w r d vl (.slice o q cap)) := by rw [hq, ← e]; exact h
    rw [← hq] at q1
    have HQ : Hid (q = d.words.length) := hq
    obtain ⟨T, hT⟩ : ∃ T, T = lastF d.words s := ⟨_, rfl⟩
    rw [← hT] at hb1 hb2 ⊢
    have HT : Hid (T = (d.words.take q).foldl (lastS s) 0) := by show _ = _; rw [hq, List.take_length]; exact hT
    obtain ⟨cn, hcn⟩ : ∃ cn, cn = clockR now := ⟨_, rfl⟩
    have hcl := clock_in now
    rw [← hcn] at hcl ⊢
    have HC : Hid (∀ W, Calls Try.prog 31 #[.int .i64 now] W fun e w' => e = .returned (.int .i64 cn) ∧ w' = W) := fun W => by rw [hcn]; exact rClock_any W now
    have hwr : IntKind.i64.wrap (cn - T) = cn - T := by rw [IntKind.wrap_i64]; omega
    have HS0 : Hid (s = (j : Int)) := hj
    unfold maxLen at q2
    subst hj
    rw [show ((j : Int)).toNat = j by omega] at k3
    clear h hs el hL eI i0 hs6 e hq hT hcn hb1 hb2 hcl HS0
    go_enter Try.func19, Try.ntmps19
    go_wp2_with (go_at_call 30; refine HI.mono ?_; rintro e w1 ⟨rfl, z9⟩; have z9 := z9.symm; subst z9)
    clear HI c1 k3
    go_loopw [9, 10] (fun s9 s10 wr => ∃ (i : Nat) (n : Int), i ≤ q ∧ s9 = .int .i64 n ∧ s10 = .int .i64 (i : Int) ∧ Hid (n = (d.words.take i).foldl (lastS (j : Int)) 0) ∧ Hid (Below w.heap.size w wr)) (fun _ s10 _ => q - (intOf s10).toNat)
    case atStart => exact ⟨0, 0, Nat.zero_le _, rfl, rfl, rfl, Below.refl _ _⟩
    case round =>
      obtain ⟨i, n, hi, rfl, rfl, HN, HB⟩ := hrel
      have HVr : Hid (RfV B wr r d vl (.slice o q cap)) := HV.out.below HB.out
      have c2 := HVr.out.f.c2
      by_cases hlt : i < q
      case neg =>
        obtain rfl : i = q := by omega
        have hlt' : ¬ (i : Int) < (i : Int) := by omega
        have hTn : T = n := by rw [HT.out, ← HN.out]
        subst hTn
        have HCw := HC.out wr
        clear HT HN HVr
        go_wp2_with (go_at_call 31; refine HCw.mono ?_; rintro e w2 ⟨rfl, z9⟩; have z9 := z9.symm; subst z9)
        go_ret
        exact ⟨rfl, HB.out⟩
      have hlt' : (i : Int) < (q : Int) := by omega
      obtain ⟨ga, offa, ca, cura, tya, fra, x, ev, hga, hcca, hxa, _⟩ := HVr.out.word (i := i) (by have := HQ.out; omega)
      simp only [Value.slice.injEq] at ev
      obtain ⟨rfl, hz9, rfl⟩ := ev
      clear hz9
      have HS : Hid ((d.words.take (i + 1)).foldl (lastS (j : Int)) 0 = lastS (j : Int) n x) := by show _ = _; rw [take_fold _ _ hxa, ← HN.out]
      obtain ⟨k0, k1', k2', k3⟩ := wdf_of (off := offa + i * 4) hga hcca
      obtain ⟨xs, hxs⟩ : ∃ xi, xi = x.s := ⟨_, rfl⟩
      obtain ⟨xk, hxk⟩ : ∃ xi, xi = x.kind := ⟨_, rfl⟩
      obtain ⟨xn, hxn⟩ : ∃ xi, xi = x.n := ⟨_, rfl⟩
      have HS2 : Hid (∀ m, m = (if xs = (j : Int) ∧ xk = 1 then xn else n) → m = (d.words.take (i + 1)).foldl (lastS (j : Int)) 0) := fun m hm => by
        rw [HS.out, hm, hxs, hxk, hxn]
        rfl
      rw [← hxs] at k0
      rw [← hxk] at k1'
      rw [← hxn] at k3
      clear hga hcca hxa hxs hxk hxn HS HN HT HVr k2' hwr
      by_cases e1 : xs = (j : Int)
      · have b2 : (xs == (j : Int)) = true := by simp [e1]
        by_cases e2 : xk = 1
        · have b3 : (xk == 1) = true := by simp [e2]
          have HS3 : Hid (xn = (d.words.take (i + 1)).foldl (lastS (j : Int)) 0) := HS2.out _ (by rw [if_pos ⟨e1, e2⟩])
          clear HS2 e1 e2
          go_wp2_with fail
          go_roundw
          case rel => exact ⟨i + 1, xn, by omega, rfl, by go_num, HS3, HB⟩
          case measure => simp [intOf]; omega
        · have b3 : (xk == 1) = false := by simp [e2]
          have HS3 : Hid (n = (d.words.take (i + 1)).foldl (lastS (j : Int)) 0) := HS2.out _ (by rw [if_neg (fun z => e2 z.2)])
          clear HS2 e1 e2
          go_wp2_with fail
          go_roundw
          case rel => exact ⟨i + 1, n, by omega, rfl, by go_num, HS3, HB⟩
          case measure => simp [intOf]; omega
      · have b2 : (xs == (j : Int)) = false := by simp [e1]
        have HS3 : Hid (n = (d.words.take (i + 1)).foldl (lastS (j : Int)) 0) := HS2.out _ (by rw [if_neg (fun z => e1 z.1)])
        clear HS2 e1
        go_wp2_with fail
        go_roundw
        case rel => exact ⟨i + 1, n, by omega, rfl, by go_num, HS3, HB⟩
        case measure => simp [intOf]; omega
end Go.Proofs.Yteongcihannldaa
namespace Go.Proofs.Yteongcihannldaa
open Go Go.RowKit
set_option maxRecDepth 20000

theorem Calls.later_same21 {P : Program} {f : FuncId} {args : Array Value} {W : World} {u : Later W} {v : Value}
    (h : Calls P f args u.world fun e w' => e = .returned v ∧ w' = u.world) : Calls P f args u.world fun e w'' => e = .returned v ∧ ∃ u' : Later W, w'' = u'.world :=
  h.mono fun _ _ ⟨he, hb⟩ => ⟨he, u, hb⟩
def YoungT (d : RfM) (s ep cn lease : Int) (l : List WdM) : Prop := ∃ x ∈ l, x.s = s ∧ x.kind = 4 ∧ x.ep < ep ∧ cn - mostF d.words s 4 x.ep < lease
theorem young_take {d : RfM} {s ep cn lease : Int} {l : List WdM} {i : Nat} {x : WdM} (h : l[i]? = some x) (h0 : ¬ YoungT d s ep cn lease (l.take i)) (hx : ¬ (x.s = s ∧ x.kind = 4 ∧ x.ep < ep ∧ cn - mostF d.words s 4 x.ep < lease)) : ¬ YoungT d s ep cn lease (l.take (i + 1)) := by
  rintro ⟨y, hy, h1⟩
  rw [List.take_add_one, h] at hy
  rcases List.mem_append.1 hy with q | q
  · exact h0 ⟨y, q, h1⟩
  · simp at q
    subst q
    exact hx h1
set_option maxHeartbeats 16000000 in
theorem rSafe21_any (B : Nat) (w : World) (r : Nat) (d : RfM) (vl vw : Value) (h : RfV B w r d vl vw) (s ep now lease : Int) (hb : ∀ e, isF d s = true → 0 ≤ mostF d.words s 4 e ∧ mostF d.words s 4 e ≤ 1099511627776) (b : Bool) (hbb : b = true ↔ SafeF d s ep now lease) :
    Calls Try.prog 25 #[.pointer (some ⟨r, 0, none⟩), .int .i64 s, .int .i64 ep, .int .i64 now, .int .i64 lease] w fun e w' => e = .returned (.bool b) ∧ Below w.heap.size w w' := by
  have HI := rIs_any w r d h.f.c0 s
  cases hs : isF d s with
  | false =>
    have e : b = false := by
      cases b with
      | false => rfl
      | true => have := (hbb.1 rfl).1; rw [hs] at this; cases this
    subst e
    rw [hs] at HI
    clear h hb hbb
    go_enter Try.func25, Try.ntmps25
    go_wp2_with (go_at_call 30; refine HI.mono ?_; rintro e w1 ⟨rfl, q⟩; subst q)
    go_ret
    exact ⟨rfl, Below.refl _ _⟩
  | true =>
  rw [hs] at HI
  have HU := rUse21_any B w r d vl vw h s
  by_cases hu : mostF d.words s 3 0 ≥ ep
  · have e : b = true := hbb.2 ⟨hs, .inl hu⟩
    subst e
    generalize mostF d.words s 3 0 = m at HU hu
    clear h hb hbb
    go_enter Try.func25, Try.ntmps25
    go_wp2_with (first
      | (go_at_call 30; refine HI.mono ?_; rintro e w1 ⟨rfl, z9⟩; have z9 := z9.symm; subst z9)
      | (go_at_call 23; refine HU.mono ?_; rintro e w1 ⟨rfl, h1⟩))
    go_ret
    exact ⟨rfl, h1⟩
  have HBB : Hid (b = true ↔ ¬ YoungT d s ep (clockR now) lease d.words) := by
    show _ ↔ _
    rw [hbb]
    exact ⟨fun z => z.2.resolve_left hu, fun z => ⟨hs, .inr z⟩⟩
  have HMB : Hid (∀ e, 0 ≤ mostF d.words s 4 e ∧ mostF d.words s 4 e ≤ 1099511627776) := fun e => hb e hs
  obtain ⟨cn, hcn⟩ : ∃ cn, cn = clockR now := ⟨_, rfl⟩
  have HCL : Hid (0 ≤ cn ∧ cn ≤ 1099511627776) := by rw [hcn]; exact clock_in now
  have HC : Hid (∀ W, Calls Try.prog 31 #[.int .i64 now] W fun e w' => e = .returned (.int .i64 cn) ∧ w' = W) := fun W => by rw [hcn]; exact rClock_any W now
  rw [← hcn] at HBB
  obtain ⟨o, cap, e, q1, q2⟩ := h.row.slice
  obtain ⟨q, hq⟩ : ∃ q, q = d.words.length := ⟨_, rfl⟩
  have HV : Hid (RfV B w r d vl (.slice o q cap)) := by rw [hq, ← e]; exact h
  rw [← hq] at q1
  have HQ : Hid (q = d.words.length) := hq
  unfold maxLen at q2
  generalize mostF d.words s 3 0 = m at HU hu
  clear h hb hbb hs hcn e hq
  have mixed : Try.prog.follows Departure.mixedOrders = true := by kernel_rfl
  go_enter Try.func25, Try.ntmps25
  go_wp2_with (first
    | (go_at_call 30; refine HI.mono ?_; rintro e w1 ⟨rfl, z9⟩; have z9 := z9.symm; subst z9)
    | (go_at_call 23; refine HU.mono ?_; rintro e w1 ⟨rfl, h1⟩))
  have HB1 : Hid (Below w.heap.size w w1) := h1
  clear h1 HU HI hu
  go_loopw [11] (fun s11 wr => ∃ (i : Nat), i ≤ q ∧ s11 = .int .i64 (i : Int) ∧ Hid (¬ YoungT d s ep cn lease (d.words.take i)) ∧ Hid (Below w.heap.size w wr)) (fun s11 _ => q - (intOf s11).toNat)
  case atStart => exact ⟨0, Nat.zero_le _, rfl, (by rintro ⟨x, hx, _⟩; simp at hx), HB1⟩
  case round =>
    obtain ⟨i, hi, rfl, HN, HB⟩ := hrel
    have HVr : Hid (RfV B wr r d vl (.slice o q cap)) := HV.out.below HB.out
    have c2 := HVr.out.f.c2
    by_cases hlt : i < q
    case neg =>
      obtain rfl : i = q := by omega
      have hlt' : ¬ (i : Int) < (i : Int) := by omega
      have hbt : b = true := HBB.out.2 (by have := HN.out; rw [HQ.out, List.take_length] at this; exact this)
      subst hbt
      clear HVr
      go_wp2_with fail
      go_ret
      exact ⟨rfl, HB.out⟩
    have hlt' : (i : Int) < (q : Int) := by omega
    obtain ⟨ga, offa, ca, cura, tya, fra, x, ev, hga, hcca, hxa, _⟩ := HVr.out.word (i := i) (by have := HQ.out; omega)
    simp only [Value.slice.injEq] at ev
    obtain ⟨rfl, hz9, rfl⟩ := ev
    clear hz9
    obtain ⟨wx, hwx⟩ : ∃ wx, wx = wr.alloc (.cells (wdV x) 59) := ⟨_, rfl⟩
    obtain ⟨px, hpx⟩ : ∃ px, px = wr.heap.size := ⟨_, rfl⟩
    have hbx : Below wr.heap.size wr wx := by rw [hwx]; exact (Below.refl _ _).alloc (Nat.le_refl _) _
    have HBx : Hid (Below w.heap.size w wx) := HB.out.trans (hbx.mono HB.out.size)
    have HVx : Hid (∀ W, Below wx.heap.size wx W → RfV B W r d vl (.slice (some ⟨ga, offa, none⟩) q cap)) := fun W hW => (HVr.out.below hbx).below hW
    have Ax : Hid (wx.heap[px]? = some (.cells (wdV x) 59 (0, 0))) := by show _ = _; rw [hwx, hpx]; exact heap_new _ _ _ rfl
    have SRx : (wr.alloc (.cells (wdV zeroWd) 59)).setRow wr.heap.size (wdV x) = wx := by rw [hwx]; exact setRow_new _ _ _ _ _ rfl
    have HXM : Hid (x ∈ d.words) := List.mem_of_getElem? hxa
    have HYT : Hid (¬ (x.s = s ∧ x.kind = 4 ∧ x.ep < ep ∧ cn - mostF d.words s 4 x.ep < lease) → ¬ YoungT d s ep cn lease (d.words.take (i + 1))) := fun hx => young_take hxa HN.out hx
    have HYF : Hid (x.s = s ∧ x.kind = 4 ∧ x.ep < ep ∧ cn - mostF d.words s 4 x.ep < lease → b = false) := fun hx => by
      cases hbv : b with
      | false => rfl
      | true => exact absurd ⟨x, HXM.out, hx⟩ (HBB.out.1 hbv)
    obtain ⟨xs, hxs⟩ : ∃ xi, xi = x.s := ⟨_, rfl⟩
    obtain ⟨xk, hxk⟩ : ∃ xi, xi = x.kind := ⟨_, rfl⟩
    obtain ⟨xe, hxe⟩ : ∃ xi, xi = x.ep := ⟨_, rfl⟩
    rw [← hxs, ← hxk, ← hxe] at HYT HYF
    obtain ⟨mo, hmo⟩ : ∃ mo, mo = mostF d.words s 4 xe := ⟨_, rfl⟩
    rw [← hmo] at HYT HYF
    have HMO : Hid (0 ≤ mo ∧ mo ≤ 1099511627776) := by rw [hmo]; exact HMB.out xe
    have HMC : Hid (∀ u : Later wx, Calls Try.prog 37 #[.pointer (some ⟨r, 0, none⟩), .int .i64 s, .int .i64 4, .int .i64 xe] u.world fun e w' => e = .returned (.int .i64 mo) ∧ Below u.world.heap.size u.world w') := fun u => by rw [hmo]; exact rMost_any B u.world r d vl _ (HVx.out u.world u.below) s 4 xe
    have HFX : Hid (∀ W, Below wx.heap.size wx W → W.cell? ⟨px, 0, none⟩ = some (.int .i64 xs) ∧ W.cell? ⟨px, 1, none⟩ = some (.int .i64 xk) ∧ W.cell? ⟨px, 2, none⟩ = some (.int .i64 xe)) := fun W hW => by
      have a3 := (hW.block _ (Array.getElem?_eq_some_iff.1 Ax.out).1).trans Ax.out
      exact ⟨by rw [cell_of_row _ _ _ _ _ _ a3, hxs]; rfl, by rw [cell_of_row _ _ _ _ _ _ a3, hxk]; rfl, by rw [cell_of_row _ _ _ _ _ _ a3, hxe]; rfl⟩
    have KGa : Hid (wr.heap[ga]? = some (.cells cura tya fra)) := hga
    have KCa : Hid (∀ j, j < 4 → cura[offa + i * 4 + j]? = (wdV x)[j]?) := hcca
    clear hga hcca hxa hwx hxs hxk hxe HVr hbx hmo HN HXM HMB
    go_wp2_with (first
      | ((with_reducible refine wl_gaW rfl ?_); refine wl_allocE21 (E := WdE) WdOk rfl rfl ?_)
      | ((with_reducible refine wl_glW _ rfl ?_); refine wl_loadE (E := WdE) WdOk rfl _ rfl ga (offa + i * 4) rfl cura tya fra (wdV x) rfl KGa.out KCa.out ?_)
      | ((with_reducible refine wl_gsW _ _ rfl ?_); refine wl_storeE (E := WdE) WdOk rfl _ _ rfl wr.heap.size (wdV x) (wd_fits x) rfl rfl _ (heap_new _ _ _ rfl) rfl _ SRx ?_; refine of_stopT ?_))
    unfold StopT
    rw [← hpx]
    clear SRx KGa KCa hpx c2
    have f0 : ∀ u : Later wx, u.world.cell? ⟨px, 0, none⟩ = some (.int .i64 xs) := fun u => (HFX.out u.world u.below).1
    have f1 : ∀ u : Later wx, u.world.cell? ⟨px, 1, none⟩ = some (.int .i64 xk) := fun u => (HFX.out u.world u.below).2.1
    have f2 : ∀ u : Later wx, u.world.cell? ⟨px, 2, none⟩ = some (.int .i64 xe) := fun u => (HFX.out u.world u.below).2.2
    clear HFX
    have ne9 := Later.ne wx
    by_cases e1 : xs = s
    case neg =>
      have b1 : (xs == s) = false := by simp [e1]
      have HY : Hid (¬ YoungT d s ep cn lease (d.words.take (i + 1))) := HYT.out fun z => e1 z.1
      clear HYT HYF e1
      go_wp2_with fail
      refine wp_region_later (by kernel_rfl) (by kernel_rfl) ?_
      repeat go_big_quiet_step (fail)
      refine wpQuiet_nil ?_
      rintro w' ⟨uL, rfl⟩
      have HBL : Hid (Below w.heap.size w uL.world) := HBx.out.trans (uL.below.mono HBx.out.size)
      go_wp2_with fail
      go_roundw
      case rel => exact ⟨i + 1, by omega, by go_num, HY, HBL⟩
      case measure => simp [intOf]; omega
    have b1 : (xs == s) = true := by simp [e1]
    by_cases e2 : xk = 4
    case neg =>
      have b2 : (xk == 4) = false := by simp [e2]
      have HY : Hid (¬ YoungT d s ep cn lease (d.words.take (i + 1))) := HYT.out fun z => e2 z.2.1
      clear HYT HYF e1 e2
      go_wp2_with fail
      refine wp_region_later (by kernel_rfl) (by kernel_rfl) ?_
      repeat go_big_quiet_step (fail)
      refine wpQuiet_nil ?_
      rintro w' ⟨uL, rfl⟩
      have HBL : Hid (Below w.heap.size w uL.world) := HBx.out.trans (uL.below.mono HBx.out.size)
      go_wp2_with fail
      go_roundw
      case rel => exact ⟨i + 1, by omega, by go_num, HY, HBL⟩
      case measure => simp [intOf]; omega
    have b2 : (xk == 4) = true := by simp [e2]
    by_cases e3 : xe < ep
    case neg =>
      have b3 : decide (xe < ep) = false := decide_eq_false e3
      have HY : Hid (¬ YoungT d s ep cn lease (d.words.take (i + 1))) := HYT.out fun z => e3 z.2.2.1
      clear HYT HYF e1 e2
      go_wp2_with fail
      refine wp_region_later (by kernel_rfl) (by kernel_rfl) ?_
      repeat go_big_quiet_step (fail)
      refine wpQuiet_nil ?_
      rintro w' ⟨uL, rfl⟩
      have HBL : Hid (Below w.heap.size w uL.world) := HBx.out.trans (uL.below.mono HBx.out.size)
      go_wp2_with fail
      go_roundw
      case rel => exact ⟨i + 1, by omega, by go_num, HY, HBL⟩
      case measure => simp [intOf]; omega
    have b3 : decide (xe < ep) = true := decide_eq_true e3
    have hwr : IntKind.i64.wrap (cn - mo) = cn - mo := by have := HMO.out; have := HCL.out; rw [IntKind.wrap_i64]; omega
    by_cases e4 : cn - mo < lease
    · have hbf : b = false := HYF.out ⟨e1, e2, e3, e4⟩
      subst hbf
      have b4 : decide (cn - mo < lease) = true := decide_eq_true e4
      clear HYT HYF e1 e2 HBB
      go_wp2_with fail
      refine wp_region_later (by kernel_rfl) (by kernel_rfl) ?_
      go_big_quiet_step (fail)
      go_big_quiet_step (fail)
      go_big_quiet_step (fail)
      go_big_quiet_step (fail)
      go_big_quiet_step (fail)
      go_big_quiet_step (fail)
      go_big_quiet_step (fail)
      go_big_quiet_step (fail)
      go_big_quiet_step (fail)
      go_big_quiet_step (fail)
      go_big_quiet_step (fail)
      go_big_quiet_step (fail)
      go_big_quiet_step (fail)
      go_big_quiet_step (fail)
      go_big_quiet_step (fail)
      go_big_quiet_step (fail)
      go_big_quiet_step (fail)
      go_big_quiet_want; go_big_quiet_op
      refine ⟨_, fun u => Calls.later_same21 (HC.out u.world), ?_⟩
      go_big_quiet_on
      go_big_quiet_step (fail)
      go_big_quiet_step (fail)
      go_big_quiet_step (fail)
      go_big_quiet_step (fail)
      go_big_quiet_want; go_big_quiet_op
      refine ⟨_, fun u => Calls.later_of (HMC.out u), ?_⟩
      go_big_quiet_on
      repeat go_big_quiet_step (fail)
      refine wpQuiet_nil ?_
      rintro w' ⟨uL, rfl⟩
      have HBL : Hid (Below w.heap.size w uL.world) := HBx.out.trans (uL.below.mono HBx.out.size)
      go_wp2_with fail
      go_ret
      exact ⟨rfl, HBL.out⟩
    · have HY : Hid (¬ YoungT d s ep cn lease (d.words.take (i + 1))) := HYT.out fun z => e4 z.2.2.2
      have b4 : decide (cn - mo < lease) = false := decide_eq_false e4
      clear HYT HYF e1 e2
      go_wp2_with fail
      refine wp_region_later (by kernel_rfl) (by kernel_rfl) ?_
      go_big_quiet_step (fail)
      go_big_quiet_step (fail)
      go_big_quiet_step (fail)
      go_big_quiet_step (fail)
      go_big_quiet_step (fail)
      go_big_quiet_step (fail)
      go_big_quiet_step (fail)
      go_big_quiet_step (fail)
      go_big_quiet_step (fail)
      go_big_quiet_step (fail)
      go_big_quiet_step (fail)
      go_big_quiet_step (fail)
      go_big_quiet_step (fail)
      go_big_quiet_step (fail)
      go_big_quiet_step (fail)
      go_big_quiet_step (fail)
      go_big_quiet_step (fail)
      go_big_quiet_want; go_big_quiet_op
      refine ⟨_, fun u => Calls.later_same21 (HC.out u.world), ?_⟩
      go_big_quiet_on
      go_big_quiet_step (fail)
      go_big_quiet_step (fail)
      go_big_quiet_step (fail)
      go_big_quiet_step (fail)
      go_big_quiet_want; go_big_quiet_op
      refine ⟨_, fun u => Calls.later_of (HMC.out u), ?_⟩
      go_big_quiet_on
      repeat go_big_quiet_step (fail)
      refine wpQuiet_nil ?_
      rintro w' ⟨uL, rfl⟩
      have HBL : Hid (Below w.heap.size w uL.world) := HBx.out.trans (uL.below.mono HBx.out.size)
      go_wp2_with fail
      go_roundw
      case rel => exact ⟨i + 1, by omega, by go_num, HY, HBL⟩
      case measure => simp [intOf]; omega
end Go.Proofs.Yteongcihannldaa
namespace Go.Proofs.Yteongcihannldaa
open Go Go.RowKit
set_option maxRecDepth 20000

set_option maxHeartbeats 4000000 in
theorem rNew21_no (n : Int) (h : ¬ (1 ≤ n ∧ n ≤ 6)) (w : World) : Calls Try.prog 9 #[.int .i64 n] w fun e w' => e = .returned (.tuple #[.pointer none, .int .i64 1]) ∧ w' = w := by
  by_cases h1 : n < 1
  · clear h
    go_enter Try.func9, Try.ntmps9
    go_wp2_with fail
    go_ret2
    exact ⟨rfl, rfl⟩
  have h4 : n > 6 := by omega
  clear h
  go_enter Try.func9, Try.ntmps9
  go_wp2_with fail
  go_ret2
  exact ⟨rfl, rfl⟩
set_option maxHeartbeats 4000000 in
theorem rNew21_yes (n : Int) (h : 1 ≤ n ∧ n ≤ 6) (w : World) : Calls Try.prog 9 #[.int .i64 n] w fun e w' => ∃ r vl, e = .returned (.tuple #[.pointer (some ⟨r, 0, none⟩), .int .i64 0]) ∧ RfV w.heap.size w' r ⟨n, List.replicate 7 0, []⟩ vl (.slice none 0 0) ∧ Below w.heap.size w w' := by
  obtain ⟨h1, h2⟩ := h
  have d1 : ¬ n < 1 := by omega
  have d2 : ¬ n > 6 := by omega
  clear h1 h2
  go_enter Try.func9, Try.ntmps9
  go_wp2_with (at_make; refine wl_makeV scI rfl _ _ rfl 7 rfl rfl (by decide) ?_; intro w1 hV hb; refine of_stopT ?_)
  unfold StopT
  have HV : Hid _ := hV
  have HB : Hid _ := hb
  clear hV hb
  go_wp2_with fail
  go_ret2
  have hb2 : Below w1.heap.size w1 (w1.alloc (.cells #[.int .i64 n, .slice (some ⟨w.heap.size, 0, none⟩) 7 7, .slice none 0 0] 56)) := (Below.refl _ _).alloc (Nat.le_refl _) _
  refine ⟨w1.heap.size, _, rfl, ⟨heap_new _ _ _ rfl, VOwn.below HV.out hb2, rfl, World.ownsRow_nil _ _ _ _, HB.out.size⟩, HB.out.trans (hb2.mono HB.out.size)⟩
end Go.Proofs.Yteongcihannldaa
