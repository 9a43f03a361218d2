import Derived.Test.YtbigifmfbibgoaaJ4
import Derived.Test.YtbigifmfbibgoaaJ6
namespace Go.Proofs.Ytbigifmfbibgoaa
open Go Go.RowKit
set_option maxRecDepth 20000

/-! The hold and the reference's, side by side. -/
structure TwH (B : Nat) (w : World) (g r : Nat) (h m : HoldM) (v : Value) (L : List HiM) : Prop where
  o : HoldV w g h
  f : RHoV B w r m v L
  ap : ¬ footRH r v g
  hB : B ≤ g
theorem TwH.below {B : Nat} {w w' : World} {g r : Nat} {h m : HoldM} {v : Value} {L : List HiM} (ht : TwH B w g r h m v L) (hb : Below w.heap.size w w') : TwH B w' g r h m v L := ⟨ht.o.below hb, ht.f.below hb, ht.ap, ht.hB⟩
theorem TwH.own {B : Nat} {w w' : World} {g r : Nat} {h h' m : HoldM} {v : Value} {L : List HiM} (ht : TwH B w g r h m v L) (hn : HoldTo w w' g h') : TwH B w' g r h' m v L ∧ Below B w w' :=
  ⟨⟨hn.1, ht.f.kept hn.2 fun k e e' => by unfold isB at e'; subst e'; exact ht.ap e, ht.ap, ht.hB⟩, hn.belowH ht.hB ht.f.hw⟩
theorem TwH.ref {B : Nat} {w w' : World} {g r : Nat} {h m m' : HoldM} {v : Value} {L : List HiM} {N : Nat} (ht : TwH B w g r h m v L) (hn : RHoTo B w w' r m' v N) : ∃ u L', TwH B w' g r h m' u L' ∧ Below B w w' ∧ Frm (footRH r v) (footRH r u) w w' ∧ L'.length ≤ N := by
  obtain ⟨u, L', h1, h2, h3⟩ := hn
  exact ⟨u, L', ⟨ht.o.kept h2.kept ht.ap, h1, fun e => h2.apart (G := fun k => k = g) (fun k e => by rw [e]; exact ht.o.lt) (fun k e e' => ht.ap (e' ▸ e)) g e rfl, ht.hB⟩, h2.kept.below (fun k e => (ht.f.foot_in k e).1) ht.f.hw, h2, h3⟩
theorem life_item (h : HoldM) (a b c d : Int) : (itemH h a b c d).1.life = h.life := by
  have h1 : ∀ (h : HoldM) (f : Int), (liftH h f).life = h.life := fun h f => by unfold liftH; split <;> rfl
  have h2 : ∀ (h : HoldM) (f : Int), (riseH h f).life = h.life := fun h f => by unfold riseH; split <;> rfl
  unfold itemH
  split
  · rfl
  · split
    · exact (h2 _ _).trans (h1 _ _)
    · split
      · exact (h2 _ _).trans (h1 _ _)
      · exact (h2 _ _).trans (h1 _ _)
theorem life_lead (h : HoldM) (a b c : Int) : (leadH h a b c).1.life = h.life := by
  have h1 : ∀ (h : HoldM) (f : Int), (liftH h f).life = h.life := fun h f => by unfold liftH; split <;> rfl
  have h2 : ∀ (h : HoldM) (a b : Int), (sayH h a b).life = h.life := fun h a b => by
    unfold sayH
    split
    · split
      · rfl
      · split <;> rfl
    · rfl
  unfold leadH
  split
  · rfl
  · exact (h2 _ _ _).trans (h1 _ _)
theorem life_does (h : HoldM) (x : ActH) : (doesH h x).1.life = h.life := by
  unfold doesH
  split
  · exact life_lead _ _ _ _
  · exact life_item _ _ _ _ _
theorem cnt_none {h : HoldM} (hk : HoldOk h) {e : Int} (he : e < 1) : (h.cnt e).1 = 0 ∧ (h.cnt e).2 = 0 := by
  have h0 : (h.cnt e).1 = 0 := Nat.eq_zero_of_not_pos fun hp => by have := (hk.two e hp).2; omega
  exact ⟨h0, hk.none_ e h0⟩
theorem new_rho (w : World) (inc : Int) : RHoV w.heap.size (w.alloc (.cells (rhV (newH inc) (.slice none 0 0)) 29)) w.heap.size (newH inc) (.slice none 0 0) [] := ⟨heap_new _ _ _ rfl, World.ownsRow_nil _ _ _ _, fun _ => rfl, Nat.le_refl _⟩
set_option maxHeartbeats 64000000 in
theorem lawHPlays_any (w : World) (inc : Int) (v : Value) (A : List ActH) (hA : GSl ActHE actH w v A) (hok : ∀ x ∈ A, OkActH x) (now lease : Int) :
    Calls Try.prog 3 #[.int .i64 inc, v, .int .i64 now, .int .i64 lease] w fun e w' => e = .returned (.bool true) ∧ Below w.heap.size w w' := by
  have HW := awake18_any w
  have N1 : Hid (∀ W, Calls Try.prog 10 #[.int .i64 inc] W fun x w' => x = .returned (.pointer (some ⟨W.heap.size, 0, none⟩)) ∧ HoldV w' W.heap.size (newH inc) ∧ Below W.heap.size W w') := fun W => newHold_any W inc
  obtain ⟨o, cap, hv, hc1, hc2⟩ := hA.slice
  have HA : Hid (GSl ActHE actH w v A) := hA
  have HK : Hid (∀ x ∈ A, OkActH x) := hok
  obtain ⟨q, hq⟩ : ∃ q, q = A.length := ⟨_, rfl⟩
  have HQ : Hid (q = A.length) := hq
  rw [← hq] at hv
  unfold maxLen at hc2
  have hq2 : q ≤ 9223372036854775807 := by omega
  clear hA hok hq hc1 hc2
  subst hv
  go_enter Try.func3, Try.ntmps3
  go_wp2_with (first
    | (go_at_call 9; refine HW.mono ?_; rintro e w1 ⟨rfl, hb1⟩)
    | (go_at_call 10; refine (N1.out _).mono ?_; rintro e w2 ⟨rfl, hV2, hb2⟩; refine of_stopT ?_))
  unfold StopT
  obtain ⟨g, hg⟩ : ∃ g, g = w1.heap.size := ⟨_, rfl⟩
  obtain ⟨r, hr⟩ : ∃ r, r = w2.heap.size := ⟨_, rfl⟩
  have B2 : Below w.heap.size w w2 := below_step hb1 hb1.size hb2
  rw [← hg] at hV2 ⊢
  obtain ⟨w3, hw3⟩ : ∃ w3, w3 = w2.alloc (.cells (rhV (newH inc) (.slice none 0 0)) 29) := ⟨_, rfl⟩
  have HT3 : Hid (TwH w.heap.size w3 g r (newH inc) (newH inc) (.slice none 0 0) []) := by
    have h1 := new_rho w2 inc
    have b3 : Below w2.heap.size w2 w3 := by rw [hw3]; exact (Below.refl _ _).alloc (Nat.le_refl _) _
    have hgl := hV2.lt
    rw [← hw3, ← hr] at h1
    refine ⟨hV2.below b3, ⟨h1.blk, gown_base h1.own (by rw [hr]; exact B2.size), h1.cnt, by rw [hr]; exact B2.size⟩, ?_, by rw [hg]; exact hb1.size⟩
    rintro (e | e)
    · omega
    · cases e
  have HB3 : Hid (Below w.heap.size w w3) := by
    show Below _ _ _
    rw [hw3]
    exact B2.alloc B2.size _
  have HR : Hid (r = w2.heap.size) := hr
  have hW3 : w2.alloc (.cells #[.int .i64 inc, .int .i64 0, .int .i64 0, .int .i64 0, .int .i64 0, .slice none 0 0] 29) = w3 := hw3.symm
  clear hV2 hb1 hb2 B2 HW N1 hw3 hg hr
  go_wp2_with fail
  rw [← HR.out]
  clear hW3
  go_loopw [11] (fun s11 wr => ∃ (k : Nat) (v : Value) (L : List HiM) (h : HoldM), k ≤ q ∧ s11 = .int .i64 (k : Int) ∧ Hid (TwH w.heap.size wr g r h h v L) ∧ Hid (HoldIn h) ∧ Hid (h.life = inc) ∧ k ≤ 80 ∧ L.length ≤ k ∧ Below w.heap.size w wr) (fun s11 _ => q - (intOf s11).toNat)
  case atStart => exact ⟨0, _, _, _, Nat.zero_le _, rfl, HT3, (new_hoIn inc), rfl, Nat.zero_le _, Nat.le_refl _, HB3.out⟩
  case round =>
    obtain ⟨k, v, L, h, hk, rfl, HT, HI, HL, h80, hlen, hb⟩ := hrel
    have HB : Hid (Below w.heap.size w wr) := hb
    have HLN : Hid (L.length ≤ k) := hlen
    clear hb hlen
    by_cases hlt : k < q
    · have hlt' : (k : Int) < (q : Int) := by omega
      by_cases hl80 : k < 80
      · have hl80' : (k : Int) < 80 := by omega
        obtain ⟨g', off, cur, ty, fr, x, rfl, hg, hcc, hxk⟩ := (GSl.below HA.out HB.out).at k hlt
        have KG : Hid (wr.heap[g']? = some (.cells cur ty fr)) := hg
        have H1 : Hid (∀ a, a < 6 → cur[off + k * 6 + a]? = (actH x)[a]?) := hcc
        have HX : Hid (OkActH x) := HK.out x (List.mem_of_getElem? hxk)
        obtain ⟨wA, hwA⟩ : ∃ wA, wA = wr.alloc (.cells (actH x) 31) := ⟨_, rfl⟩
        obtain ⟨p, hp⟩ : ∃ p, p = wr.heap.size := ⟨_, rfl⟩
        have bA : Below wr.heap.size wr wA := by rw [hwA]; exact (Below.refl _ _).alloc (Nat.le_refl _) _
        have XA : Hid (wA.heap[p]? = some (.cells (actH x) 31 (0, 0))) := by show _ = _; rw [hwA, hp]; exact heap_new _ _ _ rfl
        have TA : Hid (TwH w.heap.size wA g r h h v L) := HT.out.below bA
        have BA : Hid (Below w.heap.size w wA) := below_step HB.out HB.out.size bA
        have PF : Hid (¬ footRH r v p ∧ p ≠ g ∧ w.heap.size ≤ p) := ⟨fun e => by have := (HT.out.f.foot_in p e).2; omega, fun e => by have := HT.out.o.lt; omega, by have := HB.out.size; omega⟩
        have I1 : Hid (HoldIn (doesH h x).1) := does_in HI.out HX.out
        have L1 : Hid ((doesH h x).1.life = inc) := (life_does h x).trans HL.out
        have DO : Hid (∀ W, HoldV W g h → Calls Try.prog 13 #[.pointer (some ⟨g, 0, none⟩), .agg (actH x)] W fun e w' => e = .returned (.int .i64 (doesH h x).2) ∧ HoldTo W w' g (doesH h x).1) := fun W hW => does_any W g h hW HI.out x HX.out
        have HWA : Hid (wr.alloc (.cells (actH x) 31) = wA) := hwA.symm
        have HP : Hid (wr.heap.size = p) := hp.symm
        clear hg hcc hxk bA hwA hp
        go_wp2_with (first
          | (refine wl_loadE (E := ActHE) ActHOk rfl _ rfl g' (off + k * 6) rfl cur ty fr (actH x) rfl KG.out H1.out ?_; refine of_stopT ?_))
        unfold StopT
        go_wp2_with (refine wl_storeE (E := ActHE) ActHOk rfl _ _ rfl wr.heap.size (actH x) (actH_fits x) rfl rfl _ (heap_new _ _ _ rfl) rfl _ (setRow_new _ _ _ _ _ rfl) ?_; refine of_stopT ?_)
        unfold StopT
        rw [HWA.out, HP.out]
        have F := acthf_of (off := 0) XA.out (fun j _ => by rw [Nat.zero_add])
        have k0 := F.c0
        have k1 := F.c1
        have k2 := F.c2
        have k3 := F.c3
        have k4 := F.c4
        have k5 := F.c5
        obtain ⟨h1, hh1⟩ : ∃ h1, h1 = (doesH h x).1 := ⟨_, rfl⟩
        have HD : Hid (h1 = (doesH h x).1) := hh1
        rw [← hh1] at I1 L1 DO
        clear F hh1 HT KG H1 HA HP HWA
        cases hl : x.lead with
        | false =>
          rw [hl] at k0
          obtain ⟨res, hres⟩ : ∃ res, res = (itemH h x.floor x.epoch x.at_ x.of_).2 := ⟨_, rfl⟩
          have hdo : doesH h x = itemH h x.floor x.epoch x.at_ x.of_ := by unfold doesH; rw [if_neg (by rw [hl]; decide)]
          have RI := ritem_any w.heap.size wA r h v L TA.out.f (by have := HLN.out; omega) x.floor x.epoch x.at_ x.of_
          rw [← hdo] at hres RI
          rw [← hres, ← HD.out] at RI
          rw [← hres] at DO
          clear hdo hres hl
          go_wp2_with (go_at_call 11; refine RI.mono ?_; rintro e w2 ⟨rfl, t2⟩; refine of_stopT ?_)
          unfold StopT
          obtain ⟨v2, L2, q1, q2, q3, q4⟩ := TA.out.ref t2
          have T2 : Hid (TwH w.heap.size w2 g r h h1 v2 L2) := q1
          have B2 : Hid (Below w.heap.size w w2) := BA.out.trans q2
          have X2 : Hid (w2.heap[p]? = some (.cells (actH x) 31 (0, 0))) := q3.heap XA.out PF.out.1
          have LN2 : Hid (L2.length ≤ k + 1) := by
            have := HLN.out
            show _ ≤ _
            omega
          clear q1 q2 q3 q4 t2 TA BA XA RI k0 k1 k2 k3 k4 k5
          go_wp2_with fail
          have e9 : ∀ z : KeepB p (.cells (actH x) 31 (0, 0)), z.world.heap[p]? = some (.cells (actH x) 31 (0, 0)) := fun z => z.k1
          have ne9 : Nonempty (KeepB p (.cells (actH x) 31 (0, 0))) := ⟨⟨w2, X2.out⟩⟩
          have T2d : Hid (TwH w.heap.size (World.drew w2) g r h h1 v2 L2) := T2.out.below (Below.refl _ _).drew
          refine region_cutG ?_
          refine region_beginS (InB p (.cells (actH x) 31 (0, 0))) 49 rfl (by kernel_rfl) ?_
          refine region_reads 0 2 47 rfl (by kernel_rfl) (by kernel_rfl) (by kernel_rfl) (by intro d v c a w h; exact absurd h.1 (by simp)) (InB.of (w := World.drew w2) X2.out) ?_
          simp only [List.drop_zero, List.take_succ_cons, List.take_zero]
          go_big_quiet_step (rfl)
          refine qlE (E := ActHE) ActHOk rfl _ rfl p 0 rfl (actH x) _ (0, 0) (actH x) rfl (by rintro w' ⟨z, rfl⟩; exact z.k1) (fun j _ => by rw [Nat.zero_add]) ?_
          simp only [Act.put, List.setIfInBounds_toArray, List.set_cons_succ, List.set_cons_zero]
          refine wpQuiet_nil ?_
          refine region_reads 3 1 46 rfl (by kernel_rfl) (by kernel_rfl) (by kernel_rfl) (by intro d v c a w h; exact absurd h.1 (by simp)) (InB.of (w := World.drew w2) X2.out) ?_
          simp only [List.drop_succ_cons, List.drop_zero, List.take_succ_cons, List.take_zero]
          go_big_quiet_step (rfl)
          refine wpQuiet_nil ?_
          refine wpAnyH_all (rs := [2]) (by kernel_rfl) (by decide) ?_
          intro i hi
          obtain rfl := List.mem_singleton.1 hi
          refine wpOp_call rfl rfl 13 #[.tmp 60, .tmp 61] (by intro b w; have hf := Try.func13; simp [go_sem]) #[.pointer (some ⟨g, 0, none⟩), .agg (actH x)] rfl (fun u w' => u = .int .i64 res ∧ HoldTo (World.drew w2) w' g h1) ((DO.out _ T2d.out.o).mono fun e w' h => ⟨_, h.1, rfl, h.2⟩) (some 62) rfl ?_
          rintro u w3 ⟨rfl, h3⟩
          have Q3 := T2d.out.own h3
          have X3 : w3.heap[p]? = some (.cells (actH x) 31 (0, 0)) := h3.2.heap X2.out PF.out.2.1
          refine ⟨InB.of X3, ?_⟩
          simp only [Act.put, List.setIfInBounds_toArray, List.set_cons_succ, List.set_cons_zero]
          have T3 : Hid (TwH w.heap.size w3 g r h1 h1 v2 L2) := Q3.1
          have B3 : Hid (Below w.heap.size w w3) := B2.out.trans (((Below.refl _ _).drew).trans Q3.2)
          have XX3 : Hid (w3.heap[p]? = some (.cells (actH x) 31 (0, 0))) := X3
          have d9 : ∀ m, Below w3.heap.size w3 (w3.drewN m) := fun m => below_drewN (Below.refl _ _) m
          obtain ⟨fl, hfl⟩ : ∃ fl, fl = h1.floor := ⟨_, rfl⟩
          obtain ⟨tp, htp⟩ : ∃ tp, tp = h1.top := ⟨_, rfl⟩
          obtain ⟨us, hus⟩ : ∃ us, us = h1.use := ⟨_, rfl⟩
          obtain ⟨lv, hlv⟩ : ∃ lv, lv = liveH h1 now lease := ⟨_, rfl⟩
          have C1 : Hid (∀ m, Calls Try.prog 14 #[.pointer (some ⟨g, 0, none⟩)] (w3.drewN m) fun e w' => e = .returned (.int .i64 inc) ∧ w' = w3.drewN m) := fun m => by
            have := (own_any (w3.drewN m) g h1 (T3.out.below (d9 m)).o).1
            rw [L1.out] at this
            exact this
          have C2 : Hid (∀ m, Calls Try.prog 15 #[.pointer (some ⟨g, 0, none⟩)] (w3.drewN m) fun e w' => e = .returned (.int .i64 fl) ∧ w' = w3.drewN m) := fun m => by
            rw [hfl]
            exact (own_any (w3.drewN m) g h1 (T3.out.below (d9 m)).o).2.1
          have C3 : Hid (∀ m, Calls Try.prog 16 #[.pointer (some ⟨g, 0, none⟩)] (w3.drewN m) fun e w' => e = .returned (.int .i64 tp) ∧ w' = w3.drewN m) := fun m => by
            rw [htp]
            exact (own_any (w3.drewN m) g h1 (T3.out.below (d9 m)).o).2.2
          have C4 : Hid (∀ m, Calls Try.prog 17 #[.pointer (some ⟨g, 0, none⟩)] (w3.drewN m) fun e w' => e = .returned (.int .i64 us) ∧ w' = w3.drewN m) := fun m => by
            rw [hus]
            exact useHo_any (w3.drewN m) g h1 (T3.out.below (d9 m)).o
          have C5 : Hid (∀ m, Calls Try.prog 18 #[.pointer (some ⟨g, 0, none⟩), .int .i64 now, .int .i64 lease] (w3.drewN m) fun e w' => e = .returned (.bool lv) ∧ w' = w3.drewN m) := fun m => by
            rw [hlv]
            exact live_any (w3.drewN m) g h1 (T3.out.below (d9 m)).o I1.out.ok I1.out.b now lease
          have C6 : Hid (∀ m, Calls Try.prog 19 #[.pointer (some ⟨r, 0, none⟩), .int .i64 now, .int .i64 lease] (w3.drewN m) fun e w' => e = .returned (.bool lv) ∧ w' = w3.drewN m) := fun m => by
            rw [hlv]
            exact rlive_any w.heap.size (w3.drewN m) r h1 v2 L2 (T3.out.below (d9 m)).f I1.out.b now lease
          have r1 : ∀ m, (w3.drewN m).cell? ⟨r, 1, none⟩ = some (.int .i64 fl) := fun m => by rw [hfl]; exact (T3.out.below (d9 m)).f.f.c1
          have r2 : ∀ m, (w3.drewN m).cell? ⟨r, 2, none⟩ = some (.int .i64 tp) := fun m => by rw [htp]; exact (T3.out.below (d9 m)).f.f.c2
          have r3 : ∀ m, (w3.drewN m).cell? ⟨r, 3, none⟩ = some (.int .i64 us) := fun m => by rw [hus]; exact (T3.out.below (d9 m)).f.f.c3
          clear hfl htp hus hlv d9 h3 Q3 X3 e9 ne9
          refine region_rest (C := fun w' => ∃ n, w' = w3.drewN n) 4 45 rfl (by kernel_rfl) (by kernel_rfl) ⟨0, rfl⟩ (by rintro w' ⟨n, rfl⟩; exact InB.of (w := w3.drewN n) XX3.out) ?_
          simp only [List.drop_succ_cons, List.drop_zero]
          repeat go_big_quiet_step (first
            | (go_at_call 14; exact Calls.quiet_of_same (C1.out _))
            | (go_at_call 15; exact Calls.quiet_of_same (C2.out _))
            | (go_at_call 16; exact Calls.quiet_of_same (C3.out _))
            | (go_at_call 17; exact Calls.quiet_of_same (C4.out _))
            | (go_at_call 18; exact Calls.quiet_of_same (C5.out _))
            | (go_at_call 19; exact Calls.quiet_of_same (C6.out _)))
          refine wpQuiet_nil ?_
          intro w4 hw4
          refine ⟨by trivial, ?_⟩
          have B34 : Below w3.heap.size w3 w4 := by
            obtain ⟨nq, rfl⟩ := hw4
            exact below_drewN (Below.refl _ _) nq
          have T4 : Hid (TwH w.heap.size w4 g r h1 h1 v2 L2) := T3.out.below B34
          have B4 : Hid (Below w.heap.size w w4) := below_step B3.out B3.out.size B34
          have X4 : Hid (w4.heap[p]? = some (.cells (actH x) 31 (0, 0))) := (B34.block p (Array.getElem?_eq_some_iff.1 XX3.out).1).trans XX3.out
          clear B34 hw4 r1 r2 r3 C1 C2 C3 C4 C5 C6 T3 B3 XX3
          obtain ⟨xe, hxe⟩ : ∃ xe, xe = x.epoch := ⟨_, rfl⟩
          have CO := countH_any w4 g h1 T4.out.o xe
          obtain ⟨c1, hc1⟩ : ∃ c1, c1 = (h1.cnt xe).1 := ⟨_, rfl⟩
          obtain ⟨c2, hc2⟩ : ∃ c2, c2 = (h1.cnt xe).2 := ⟨_, rfl⟩
          have RC : Hid (∀ W, Below w4.heap.size w4 W → Calls Try.prog 21 #[.pointer (some ⟨r, 0, none⟩), .int .i64 xe] W fun x w' => x = .returned (.tuple #[.int .i64 (c1 : Int), .int .i64 c2]) ∧ w' = W) := fun W hb => by
            rw [hc1, hc2]
            exact rcountH_any w.heap.size W r h1 v2 L2 (T4.out.below hb).f (by have := LN2.out; omega) xe
          obtain ⟨bf, hbf⟩ : ∃ bf, bf = fullH h1 xe := ⟨_, rfl⟩
          have HBF : Hid (bf = (decide (0 < c1) && decide ((c1 : Int) = c2))) := by
            show _ = _
            rw [hbf, hc1, hc2]
            rfl
          have FU : Hid (∀ W, Below w4.heap.size w4 W → Calls Try.prog 22 #[.pointer (some ⟨g, 0, none⟩), .int .i64 xe] W fun x w' => x = .returned (.bool bf) ∧ Below W.heap.size W w') := fun W hb => by
            rw [hbf]
            exact fullH_any W g h1 (T4.out.below hb).o xe
          have HE : Hid (∀ W, Below w4.heap.size w4 W → W.cell? ⟨p, 2, none⟩ = some (.int .i64 xe)) := fun W hb => by
            rw [hxe]
            exact (acthf_of (w := W) (off := 0) ((hb.block p (Array.getElem?_eq_some_iff.1 X4.out).1).trans X4.out) (fun j _ => by rw [Nat.zero_add])).c2
          have HC0 : Hid (xe < 1 → c1 = 0 ∧ c2 = 0) := fun he => by
            rw [hc1, hc2]
            exact cnt_none I1.out.ok he
          have j4 := HE.out w4 (Below.refl _ _)
          rw [← hc1, ← hc2] at CO
          clear hc1 hc2 hxe hbf
          by_cases he : xe < 1
          · obtain ⟨rfl, rfl⟩ := HC0.out he
            go_wp2_with (go_at_call 20; refine CO.mono ?_; rintro e w5 ⟨rfl, b5⟩; refine of_stopT ?_)
            unfold StopT
            have j5 := HE.out w5 b5
            have rc := RC.out w5 b5
            have fu := FU.out w5 b5
            rw [show bf = false by rw [HBF.out]; rfl] at fu
            have T5 : Hid (TwH w.heap.size w5 g r h1 h1 v2 L2) := T4.out.below b5
            have B5 : Hid (Below w.heap.size w w5) := below_step B4.out B4.out.size b5
            clear b5 CO j4
            go_wp2_with (first
              | (go_at_call 21; refine rc.mono ?_; rintro e w6 ⟨rfl, h6⟩; have h6 := h6.symm; subst h6)
              | (go_at_call 22; refine fu.mono ?_; rintro e w7 ⟨rfl, b7⟩; refine of_stopT ?_))
            unfold StopT
            have T7 : Hid (TwH w.heap.size w7 g r h1 h1 v2 L2) := T5.out.below b7
            have B7 : Hid (Below w.heap.size w w7) := below_step B5.out B5.out.size b7
            clear b7 fu rc
            go_wp2_with fail
            go_roundw
            case rel => exact ⟨k + 1, v2, L2, h1, by omega, by go_num, T7, I1, L1, by omega, LN2.out, B7.out⟩
            case measure => simp [intOf]; omega
          · by_cases p1 : 0 < c1
            · have p1' : (c1 : Int) > 0 := by omega
              by_cases p2 : (c1 : Int) = c2
              · subst p2
                go_wp2_with (go_at_call 20; refine CO.mono ?_; rintro e w5 ⟨rfl, b5⟩; refine of_stopT ?_)
                unfold StopT
                have j5 := HE.out w5 b5
                have rc := RC.out w5 b5
                have fu := FU.out w5 b5
                rw [show bf = true by rw [HBF.out]; simp [p1]] at fu
                have T5 : Hid (TwH w.heap.size w5 g r h1 h1 v2 L2) := T4.out.below b5
                have B5 : Hid (Below w.heap.size w w5) := below_step B4.out B4.out.size b5
                clear b5 CO j4
                go_wp2_with (first
                  | (go_at_call 21; refine rc.mono ?_; rintro e w6 ⟨rfl, h6⟩; have h6 := h6.symm; subst h6)
                  | (go_at_call 22; refine fu.mono ?_; rintro e w7 ⟨rfl, b7⟩; refine of_stopT ?_))
                unfold StopT
                have T7 : Hid (TwH w.heap.size w7 g r h1 h1 v2 L2) := T5.out.below b7
                have B7 : Hid (Below w.heap.size w w7) := below_step B5.out B5.out.size b7
                clear b7 fu rc
                go_wp2_with fail
                go_roundw
                case rel => exact ⟨k + 1, v2, L2, h1, by omega, by go_num, T7, I1, L1, by omega, LN2.out, B7.out⟩
                case measure => simp [intOf]; omega
              · have p2' : ((c1 : Int) == c2) = false := by simpa using p2
                go_wp2_with (go_at_call 20; refine CO.mono ?_; rintro e w5 ⟨rfl, b5⟩; refine of_stopT ?_)
                unfold StopT
                have j5 := HE.out w5 b5
                have rc := RC.out w5 b5
                have fu := FU.out w5 b5
                rw [show bf = false by rw [HBF.out]; simp [p2]] at fu
                clear p2
                have T5 : Hid (TwH w.heap.size w5 g r h1 h1 v2 L2) := T4.out.below b5
                have B5 : Hid (Below w.heap.size w w5) := below_step B4.out B4.out.size b5
                clear b5 CO j4
                go_wp2_with (first
                  | (go_at_call 21; refine rc.mono ?_; rintro e w6 ⟨rfl, h6⟩; have h6 := h6.symm; subst h6)
                  | (go_at_call 22; refine fu.mono ?_; rintro e w7 ⟨rfl, b7⟩; refine of_stopT ?_))
                unfold StopT
                have T7 : Hid (TwH w.heap.size w7 g r h1 h1 v2 L2) := T5.out.below b7
                have B7 : Hid (Below w.heap.size w w7) := below_step B5.out B5.out.size b7
                clear b7 fu rc
                go_wp2_with fail
                go_roundw
                case rel => exact ⟨k + 1, v2, L2, h1, by omega, by go_num, T7, I1, L1, by omega, LN2.out, B7.out⟩
                case measure => simp [intOf]; omega
            · have p1' : ¬ (c1 : Int) > 0 := by omega
              go_wp2_with (go_at_call 20; refine CO.mono ?_; rintro e w5 ⟨rfl, b5⟩; refine of_stopT ?_)
              unfold StopT
              have j5 := HE.out w5 b5
              have rc := RC.out w5 b5
              have fu := FU.out w5 b5
              rw [show bf = false by rw [HBF.out]; simp [p1]] at fu
              have T5 : Hid (TwH w.heap.size w5 g r h1 h1 v2 L2) := T4.out.below b5
              have B5 : Hid (Below w.heap.size w w5) := below_step B4.out B4.out.size b5
              clear b5 CO j4
              go_wp2_with (first
                | (go_at_call 21; refine rc.mono ?_; rintro e w6 ⟨rfl, h6⟩; have h6 := h6.symm; subst h6)
                | (go_at_call 22; refine fu.mono ?_; rintro e w7 ⟨rfl, b7⟩; refine of_stopT ?_))
              unfold StopT
              have T7 : Hid (TwH w.heap.size w7 g r h1 h1 v2 L2) := T5.out.below b7
              have B7 : Hid (Below w.heap.size w w7) := below_step B5.out B5.out.size b7
              clear b7 fu rc
              go_wp2_with fail
              go_roundw
              case rel => exact ⟨k + 1, v2, L2, h1, by omega, by go_num, T7, I1, L1, by omega, LN2.out, B7.out⟩
              case measure => simp [intOf]; omega
        | true =>
          rw [hl] at k0
          have RI := rlead_any w.heap.size wA r h v L TA.out.f (by have := HLN.out; omega) x.sent x.epoch x.floor
          have hdo : doesH h x = ((leadH h x.sent x.epoch x.floor).1, if (leadH h x.sent x.epoch x.floor).2 = true then 1 else 0) := by unfold doesH; rw [if_pos hl]
          rw [hdo] at HD DO
          dsimp only at HD DO
          rw [← HD.out] at RI
          cases hb : (leadH h x.sent x.epoch x.floor).2 with
          | true =>
            rw [hb] at RI
            rw [hb, if_pos rfl] at DO
            clear hdo hb hl HD
            go_wp2_with (go_at_call 12; refine RI.mono ?_; rintro e w2 ⟨rfl, t2⟩; refine of_stopT ?_)
            unfold StopT
            obtain ⟨v2, L2, q1, q2, q3, q4⟩ := TA.out.ref t2
            have T2 : Hid (TwH w.heap.size w2 g r h h1 v2 L2) := q1
            have B2 : Hid (Below w.heap.size w w2) := BA.out.trans q2
            have X2 : Hid (w2.heap[p]? = some (.cells (actH x) 31 (0, 0))) := q3.heap XA.out PF.out.1
            have LN2 : Hid (L2.length ≤ k + 1) := by
              have := HLN.out
              show _ ≤ _
              omega
            clear q1 q2 q3 q4 t2 TA BA XA RI k0 k1 k2 k3 k4 k5
            go_wp2_with fail
            have e9 : ∀ z : KeepB p (.cells (actH x) 31 (0, 0)), z.world.heap[p]? = some (.cells (actH x) 31 (0, 0)) := fun z => z.k1
            have ne9 : Nonempty (KeepB p (.cells (actH x) 31 (0, 0))) := ⟨⟨w2, X2.out⟩⟩
            have T2d : Hid (TwH w.heap.size (World.drew w2) g r h h1 v2 L2) := T2.out.below (Below.refl _ _).drew
            refine region_cutG ?_
            refine region_beginS (InB p (.cells (actH x) 31 (0, 0))) 49 rfl (by kernel_rfl) ?_
            refine region_reads 0 2 47 rfl (by kernel_rfl) (by kernel_rfl) (by kernel_rfl) (by intro d v c a w h; exact absurd h.1 (by simp)) (InB.of (w := World.drew w2) X2.out) ?_
            simp only [List.drop_zero, List.take_succ_cons, List.take_zero]
            go_big_quiet_step (rfl)
            refine qlE (E := ActHE) ActHOk rfl _ rfl p 0 rfl (actH x) _ (0, 0) (actH x) rfl (by rintro w' ⟨z, rfl⟩; exact z.k1) (fun j _ => by rw [Nat.zero_add]) ?_
            simp only [Act.put, List.setIfInBounds_toArray, List.set_cons_succ, List.set_cons_zero]
            refine wpQuiet_nil ?_
            refine region_reads 3 1 46 rfl (by kernel_rfl) (by kernel_rfl) (by kernel_rfl) (by intro d v c a w h; exact absurd h.1 (by simp)) (InB.of (w := World.drew w2) X2.out) ?_
            simp only [List.drop_succ_cons, List.drop_zero, List.take_succ_cons, List.take_zero]
            go_big_quiet_step (rfl)
            refine wpQuiet_nil ?_
            refine wpAnyH_all (rs := [2]) (by kernel_rfl) (by decide) ?_
            intro i hi
            obtain rfl := List.mem_singleton.1 hi
            refine wpOp_call rfl rfl 13 #[.tmp 60, .tmp 61] (by intro b w; have hf := Try.func13; simp [go_sem]) #[.pointer (some ⟨g, 0, none⟩), .agg (actH x)] rfl (fun u w' => u = .int .i64 1 ∧ HoldTo (World.drew w2) w' g h1) ((DO.out _ T2d.out.o).mono fun e w' h => ⟨_, h.1, rfl, h.2⟩) (some 62) rfl ?_
            rintro u w3 ⟨rfl, h3⟩
            have Q3 := T2d.out.own h3
            have X3 : w3.heap[p]? = some (.cells (actH x) 31 (0, 0)) := h3.2.heap X2.out PF.out.2.1
            refine ⟨InB.of X3, ?_⟩
            simp only [Act.put, List.setIfInBounds_toArray, List.set_cons_succ, List.set_cons_zero]
            have T3 : Hid (TwH w.heap.size w3 g r h1 h1 v2 L2) := Q3.1
            have B3 : Hid (Below w.heap.size w w3) := B2.out.trans (((Below.refl _ _).drew).trans Q3.2)
            have XX3 : Hid (w3.heap[p]? = some (.cells (actH x) 31 (0, 0))) := X3
            have d9 : ∀ m, Below w3.heap.size w3 (w3.drewN m) := fun m => below_drewN (Below.refl _ _) m
            obtain ⟨fl, hfl⟩ : ∃ fl, fl = h1.floor := ⟨_, rfl⟩
            obtain ⟨tp, htp⟩ : ∃ tp, tp = h1.top := ⟨_, rfl⟩
            obtain ⟨us, hus⟩ : ∃ us, us = h1.use := ⟨_, rfl⟩
            obtain ⟨lv, hlv⟩ : ∃ lv, lv = liveH h1 now lease := ⟨_, rfl⟩
            have C1 : Hid (∀ m, Calls Try.prog 14 #[.pointer (some ⟨g, 0, none⟩)] (w3.drewN m) fun e w' => e = .returned (.int .i64 inc) ∧ w' = w3.drewN m) := fun m => by
              have := (own_any (w3.drewN m) g h1 (T3.out.below (d9 m)).o).1
              rw [L1.out] at this
              exact this
            have C2 : Hid (∀ m, Calls Try.prog 15 #[.pointer (some ⟨g, 0, none⟩)] (w3.drewN m) fun e w' => e = .returned (.int .i64 fl) ∧ w' = w3.drewN m) := fun m => by
              rw [hfl]
              exact (own_any (w3.drewN m) g h1 (T3.out.below (d9 m)).o).2.1
            have C3 : Hid (∀ m, Calls Try.prog 16 #[.pointer (some ⟨g, 0, none⟩)] (w3.drewN m) fun e w' => e = .returned (.int .i64 tp) ∧ w' = w3.drewN m) := fun m => by
              rw [htp]
              exact (own_any (w3.drewN m) g h1 (T3.out.below (d9 m)).o).2.2
            have C4 : Hid (∀ m, Calls Try.prog 17 #[.pointer (some ⟨g, 0, none⟩)] (w3.drewN m) fun e w' => e = .returned (.int .i64 us) ∧ w' = w3.drewN m) := fun m => by
              rw [hus]
              exact useHo_any (w3.drewN m) g h1 (T3.out.below (d9 m)).o
            have C5 : Hid (∀ m, Calls Try.prog 18 #[.pointer (some ⟨g, 0, none⟩), .int .i64 now, .int .i64 lease] (w3.drewN m) fun e w' => e = .returned (.bool lv) ∧ w' = w3.drewN m) := fun m => by
              rw [hlv]
              exact live_any (w3.drewN m) g h1 (T3.out.below (d9 m)).o I1.out.ok I1.out.b now lease
            have C6 : Hid (∀ m, Calls Try.prog 19 #[.pointer (some ⟨r, 0, none⟩), .int .i64 now, .int .i64 lease] (w3.drewN m) fun e w' => e = .returned (.bool lv) ∧ w' = w3.drewN m) := fun m => by
              rw [hlv]
              exact rlive_any w.heap.size (w3.drewN m) r h1 v2 L2 (T3.out.below (d9 m)).f I1.out.b now lease
            have r1 : ∀ m, (w3.drewN m).cell? ⟨r, 1, none⟩ = some (.int .i64 fl) := fun m => by rw [hfl]; exact (T3.out.below (d9 m)).f.f.c1
            have r2 : ∀ m, (w3.drewN m).cell? ⟨r, 2, none⟩ = some (.int .i64 tp) := fun m => by rw [htp]; exact (T3.out.below (d9 m)).f.f.c2
            have r3 : ∀ m, (w3.drewN m).cell? ⟨r, 3, none⟩ = some (.int .i64 us) := fun m => by rw [hus]; exact (T3.out.below (d9 m)).f.f.c3
            clear hfl htp hus hlv d9 h3 Q3 X3 e9 ne9
            refine region_rest (C := fun w' => ∃ n, w' = w3.drewN n) 4 45 rfl (by kernel_rfl) (by kernel_rfl) ⟨0, rfl⟩ (by rintro w' ⟨n, rfl⟩; exact InB.of (w := w3.drewN n) XX3.out) ?_
            simp only [List.drop_succ_cons, List.drop_zero]
            repeat go_big_quiet_step (first
              | (go_at_call 14; exact Calls.quiet_of_same (C1.out _))
              | (go_at_call 15; exact Calls.quiet_of_same (C2.out _))
              | (go_at_call 16; exact Calls.quiet_of_same (C3.out _))
              | (go_at_call 17; exact Calls.quiet_of_same (C4.out _))
              | (go_at_call 18; exact Calls.quiet_of_same (C5.out _))
              | (go_at_call 19; exact Calls.quiet_of_same (C6.out _)))
            refine wpQuiet_nil ?_
            intro w4 hw4
            refine ⟨by trivial, ?_⟩
            have B34 : Below w3.heap.size w3 w4 := by
              obtain ⟨nq, rfl⟩ := hw4
              exact below_drewN (Below.refl _ _) nq
            have T4 : Hid (TwH w.heap.size w4 g r h1 h1 v2 L2) := T3.out.below B34
            have B4 : Hid (Below w.heap.size w w4) := below_step B3.out B3.out.size B34
            have X4 : Hid (w4.heap[p]? = some (.cells (actH x) 31 (0, 0))) := (B34.block p (Array.getElem?_eq_some_iff.1 XX3.out).1).trans XX3.out
            clear B34 hw4 r1 r2 r3 C1 C2 C3 C4 C5 C6 T3 B3 XX3
            obtain ⟨xe, hxe⟩ : ∃ xe, xe = x.epoch := ⟨_, rfl⟩
            have CO := countH_any w4 g h1 T4.out.o xe
            obtain ⟨c1, hc1⟩ : ∃ c1, c1 = (h1.cnt xe).1 := ⟨_, rfl⟩
            obtain ⟨c2, hc2⟩ : ∃ c2, c2 = (h1.cnt xe).2 := ⟨_, rfl⟩
            have RC : Hid (∀ W, Below w4.heap.size w4 W → Calls Try.prog 21 #[.pointer (some ⟨r, 0, none⟩), .int .i64 xe] W fun x w' => x = .returned (.tuple #[.int .i64 (c1 : Int), .int .i64 c2]) ∧ w' = W) := fun W hb => by
              rw [hc1, hc2]
              exact rcountH_any w.heap.size W r h1 v2 L2 (T4.out.below hb).f (by have := LN2.out; omega) xe
            obtain ⟨bf, hbf⟩ : ∃ bf, bf = fullH h1 xe := ⟨_, rfl⟩
            have HBF : Hid (bf = (decide (0 < c1) && decide ((c1 : Int) = c2))) := by
              show _ = _
              rw [hbf, hc1, hc2]
              rfl
            have FU : Hid (∀ W, Below w4.heap.size w4 W → Calls Try.prog 22 #[.pointer (some ⟨g, 0, none⟩), .int .i64 xe] W fun x w' => x = .returned (.bool bf) ∧ Below W.heap.size W w') := fun W hb => by
              rw [hbf]
              exact fullH_any W g h1 (T4.out.below hb).o xe
            have HE : Hid (∀ W, Below w4.heap.size w4 W → W.cell? ⟨p, 2, none⟩ = some (.int .i64 xe)) := fun W hb => by
              rw [hxe]
              exact (acthf_of (w := W) (off := 0) ((hb.block p (Array.getElem?_eq_some_iff.1 X4.out).1).trans X4.out) (fun j _ => by rw [Nat.zero_add])).c2
            have HC0 : Hid (xe < 1 → c1 = 0 ∧ c2 = 0) := fun he => by
              rw [hc1, hc2]
              exact cnt_none I1.out.ok he
            have j4 := HE.out w4 (Below.refl _ _)
            rw [← hc1, ← hc2] at CO
            clear hc1 hc2 hxe hbf
            by_cases he : xe < 1
            · obtain ⟨rfl, rfl⟩ := HC0.out he
              go_wp2_with (go_at_call 20; refine CO.mono ?_; rintro e w5 ⟨rfl, b5⟩; refine of_stopT ?_)
              unfold StopT
              have j5 := HE.out w5 b5
              have rc := RC.out w5 b5
              have fu := FU.out w5 b5
              rw [show bf = false by rw [HBF.out]; rfl] at fu
              have T5 : Hid (TwH w.heap.size w5 g r h1 h1 v2 L2) := T4.out.below b5
              have B5 : Hid (Below w.heap.size w w5) := below_step B4.out B4.out.size b5
              clear b5 CO j4
              go_wp2_with (first
                | (go_at_call 21; refine rc.mono ?_; rintro e w6 ⟨rfl, h6⟩; have h6 := h6.symm; subst h6)
                | (go_at_call 22; refine fu.mono ?_; rintro e w7 ⟨rfl, b7⟩; refine of_stopT ?_))
              unfold StopT
              have T7 : Hid (TwH w.heap.size w7 g r h1 h1 v2 L2) := T5.out.below b7
              have B7 : Hid (Below w.heap.size w w7) := below_step B5.out B5.out.size b7
              clear b7 fu rc
              go_wp2_with fail
              go_roundw
              case rel => exact ⟨k + 1, v2, L2, h1, by omega, by go_num, T7, I1, L1, by omega, LN2.out, B7.out⟩
              case measure => simp [intOf]; omega
            · by_cases p1 : 0 < c1
              · have p1' : (c1 : Int) > 0 := by omega
                by_cases p2 : (c1 : Int) = c2
                · subst p2
                  go_wp2_with (go_at_call 20; refine CO.mono ?_; rintro e w5 ⟨rfl, b5⟩; refine of_stopT ?_)
                  unfold StopT
                  have j5 := HE.out w5 b5
                  have rc := RC.out w5 b5
                  have fu := FU.out w5 b5
                  rw [show bf = true by rw [HBF.out]; simp [p1]] at fu
                  have T5 : Hid (TwH w.heap.size w5 g r h1 h1 v2 L2) := T4.out.below b5
                  have B5 : Hid (Below w.heap.size w w5) := below_step B4.out B4.out.size b5
                  clear b5 CO j4
                  go_wp2_with (first
                    | (go_at_call 21; refine rc.mono ?_; rintro e w6 ⟨rfl, h6⟩; have h6 := h6.symm; subst h6)
                    | (go_at_call 22; refine fu.mono ?_; rintro e w7 ⟨rfl, b7⟩; refine of_stopT ?_))
                  unfold StopT
                  have T7 : Hid (TwH w.heap.size w7 g r h1 h1 v2 L2) := T5.out.below b7
                  have B7 : Hid (Below w.heap.size w w7) := below_step B5.out B5.out.size b7
                  clear b7 fu rc
                  go_wp2_with fail
                  go_roundw
                  case rel => exact ⟨k + 1, v2, L2, h1, by omega, by go_num, T7, I1, L1, by omega, LN2.out, B7.out⟩
                  case measure => simp [intOf]; omega
                · have p2' : ((c1 : Int) == c2) = false := by simpa using p2
                  go_wp2_with (go_at_call 20; refine CO.mono ?_; rintro e w5 ⟨rfl, b5⟩; refine of_stopT ?_)
                  unfold StopT
                  have j5 := HE.out w5 b5
                  have rc := RC.out w5 b5
                  have fu := FU.out w5 b5
                  rw [show bf = false by rw [HBF.out]; simp [p2]] at fu
                  clear p2
                  have T5 : Hid (TwH w.heap.size w5 g r h1 h1 v2 L2) := T4.out.below b5
                  have B5 : Hid (Below w.heap.size w w5) := below_step B4.out B4.out.size b5
                  clear b5 CO j4
                  go_wp2_with (first
                    | (go_at_call 21; refine rc.mono ?_; rintro e w6 ⟨rfl, h6⟩; have h6 := h6.symm; subst h6)
                    | (go_at_call 22; refine fu.mono ?_; rintro e w7 ⟨rfl, b7⟩; refine of_stopT ?_))
                  unfold StopT
                  have T7 : Hid (TwH w.heap.size w7 g r h1 h1 v2 L2) := T5.out.below b7
                  have B7 : Hid (Below w.heap.size w w7) := below_step B5.out B5.out.size b7
                  clear b7 fu rc
                  go_wp2_with fail
                  go_roundw
                  case rel => exact ⟨k + 1, v2, L2, h1, by omega, by go_num, T7, I1, L1, by omega, LN2.out, B7.out⟩
                  case measure => simp [intOf]; omega
              · have p1' : ¬ (c1 : Int) > 0 := by omega
                go_wp2_with (go_at_call 20; refine CO.mono ?_; rintro e w5 ⟨rfl, b5⟩; refine of_stopT ?_)
                unfold StopT
                have j5 := HE.out w5 b5
                have rc := RC.out w5 b5
                have fu := FU.out w5 b5
                rw [show bf = false by rw [HBF.out]; simp [p1]] at fu
                have T5 : Hid (TwH w.heap.size w5 g r h1 h1 v2 L2) := T4.out.below b5
                have B5 : Hid (Below w.heap.size w w5) := below_step B4.out B4.out.size b5
                clear b5 CO j4
                go_wp2_with (first
                  | (go_at_call 21; refine rc.mono ?_; rintro e w6 ⟨rfl, h6⟩; have h6 := h6.symm; subst h6)
                  | (go_at_call 22; refine fu.mono ?_; rintro e w7 ⟨rfl, b7⟩; refine of_stopT ?_))
                unfold StopT
                have T7 : Hid (TwH w.heap.size w7 g r h1 h1 v2 L2) := T5.out.below b7
                have B7 : Hid (Below w.heap.size w w7) := below_step B5.out B5.out.size b7
                clear b7 fu rc
                go_wp2_with fail
                go_roundw
                case rel => exact ⟨k + 1, v2, L2, h1, by omega, by go_num, T7, I1, L1, by omega, LN2.out, B7.out⟩
                case measure => simp [intOf]; omega
          | false =>
            rw [hb] at RI
            rw [hb, if_neg (by decide)] at DO
            clear hdo hb hl HD
            go_wp2_with (go_at_call 12; refine RI.mono ?_; rintro e w2 ⟨rfl, t2⟩; refine of_stopT ?_)
            unfold StopT
            obtain ⟨v2, L2, q1, q2, q3, q4⟩ := TA.out.ref t2
            have T2 : Hid (TwH w.heap.size w2 g r h h1 v2 L2) := q1
            have B2 : Hid (Below w.heap.size w w2) := BA.out.trans q2
            have X2 : Hid (w2.heap[p]? = some (.cells (actH x) 31 (0, 0))) := q3.heap XA.out PF.out.1
            have LN2 : Hid (L2.length ≤ k + 1) := by
              have := HLN.out
              show _ ≤ _
              omega
            clear q1 q2 q3 q4 t2 TA BA XA RI k0 k1 k2 k3 k4 k5
            go_wp2_with fail
            have e9 : ∀ z : KeepB p (.cells (actH x) 31 (0, 0)), z.world.heap[p]? = some (.cells (actH x) 31 (0, 0)) := fun z => z.k1
            have ne9 : Nonempty (KeepB p (.cells (actH x) 31 (0, 0))) := ⟨⟨w2, X2.out⟩⟩
            have T2d : Hid (TwH w.heap.size (World.drew w2) g r h h1 v2 L2) := T2.out.below (Below.refl _ _).drew
            refine region_cutG ?_
            refine region_beginS (InB p (.cells (actH x) 31 (0, 0))) 49 rfl (by kernel_rfl) ?_
            refine region_reads 0 2 47 rfl (by kernel_rfl) (by kernel_rfl) (by kernel_rfl) (by intro d v c a w h; exact absurd h.1 (by simp)) (InB.of (w := World.drew w2) X2.out) ?_
            simp only [List.drop_zero, List.take_succ_cons, List.take_zero]
            go_big_quiet_step (rfl)
            refine qlE (E := ActHE) ActHOk rfl _ rfl p 0 rfl (actH x) _ (0, 0) (actH x) rfl (by rintro w' ⟨z, rfl⟩; exact z.k1) (fun j _ => by rw [Nat.zero_add]) ?_
            simp only [Act.put, List.setIfInBounds_toArray, List.set_cons_succ, List.set_cons_zero]
            refine wpQuiet_nil ?_
            refine region_reads 3 1 46 rfl (by kernel_rfl) (by kernel_rfl) (by kernel_rfl) (by intro d v c a w h; exact absurd h.1 (by simp)) (InB.of (w := World.drew w2) X2.out) ?_
            simp only [List.drop_succ_cons, List.drop_zero, List.take_succ_cons, List.take_zero]
            go_big_quiet_step (rfl)
            refine wpQuiet_nil ?_
            refine wpAnyH_all (rs := [2]) (by kernel_rfl) (by decide) ?_
            intro i hi
            obtain rfl := List.mem_singleton.1 hi
            refine wpOp_call rfl rfl 13 #[.tmp 60, .tmp 61] (by intro b w; have hf := Try.func13; simp [go_sem]) #[.pointer (some ⟨g, 0, none⟩), .agg (actH x)] rfl (fun u w' => u = .int .i64 0 ∧ HoldTo (World.drew w2) w' g h1) ((DO.out _ T2d.out.o).mono fun e w' h => ⟨_, h.1, rfl, h.2⟩) (some 62) rfl ?_
            rintro u w3 ⟨rfl, h3⟩
            have Q3 := T2d.out.own h3
            have X3 : w3.heap[p]? = some (.cells (actH x) 31 (0, 0)) := h3.2.heap X2.out PF.out.2.1
            refine ⟨InB.of X3, ?_⟩
            simp only [Act.put, List.setIfInBounds_toArray, List.set_cons_succ, List.set_cons_zero]
            have T3 : Hid (TwH w.heap.size w3 g r h1 h1 v2 L2) := Q3.1
            have B3 : Hid (Below w.heap.size w w3) := B2.out.trans (((Below.refl _ _).drew).trans Q3.2)
            have XX3 : Hid (w3.heap[p]? = some (.cells (actH x) 31 (0, 0))) := X3
            have d9 : ∀ m, Below w3.heap.size w3 (w3.drewN m) := fun m => below_drewN (Below.refl _ _) m
            obtain ⟨fl, hfl⟩ : ∃ fl, fl = h1.floor := ⟨_, rfl⟩
            obtain ⟨tp, htp⟩ : ∃ tp, tp = h1.top := ⟨_, rfl⟩
            obtain ⟨us, hus⟩ : ∃ us, us = h1.use := ⟨_, rfl⟩
            obtain ⟨lv, hlv⟩ : ∃ lv, lv = liveH h1 now lease := ⟨_, rfl⟩
            have C1 : Hid (∀ m, Calls Try.prog 14 #[.pointer (some ⟨g, 0, none⟩)] (w3.drewN m) fun e w' => e = .returned (.int .i64 inc) ∧ w' = w3.drewN m) := fun m => by
              have := (own_any (w3.drewN m) g h1 (T3.out.below (d9 m)).o).1
              rw [L1.out] at this
              exact this
            have C2 : Hid (∀ m, Calls Try.prog 15 #[.pointer (some ⟨g, 0, none⟩)] (w3.drewN m) fun e w' => e = .returned (.int .i64 fl) ∧ w' = w3.drewN m) := fun m => by
              rw [hfl]
              exact (own_any (w3.drewN m) g h1 (T3.out.below (d9 m)).o).2.1
            have C3 : Hid (∀ m, Calls Try.prog 16 #[.pointer (some ⟨g, 0, none⟩)] (w3.drewN m) fun e w' => e = .returned (.int .i64 tp) ∧ w' = w3.drewN m) := fun m => by
              rw [htp]
              exact (own_any (w3.drewN m) g h1 (T3.out.below (d9 m)).o).2.2
            have C4 : Hid (∀ m, Calls Try.prog 17 #[.pointer (some ⟨g, 0, none⟩)] (w3.drewN m) fun e w' => e = .returned (.int .i64 us) ∧ w' = w3.drewN m) := fun m => by
              rw [hus]
              exact useHo_any (w3.drewN m) g h1 (T3.out.below (d9 m)).o
            have C5 : Hid (∀ m, Calls Try.prog 18 #[.pointer (some ⟨g, 0, none⟩), .int .i64 now, .int .i64 lease] (w3.drewN m) fun e w' => e = .returned (.bool lv) ∧ w' = w3.drewN m) := fun m => by
              rw [hlv]
              exact live_any (w3.drewN m) g h1 (T3.out.below (d9 m)).o I1.out.ok I1.out.b now lease
            have C6 : Hid (∀ m, Calls Try.prog 19 #[.pointer (some ⟨r, 0, none⟩), .int .i64 now, .int .i64 lease] (w3.drewN m) fun e w' => e = .returned (.bool lv) ∧ w' = w3.drewN m) := fun m => by
              rw [hlv]
              exact rlive_any w.heap.size (w3.drewN m) r h1 v2 L2 (T3.out.below (d9 m)).f I1.out.b now lease
            have r1 : ∀ m, (w3.drewN m).cell? ⟨r, 1, none⟩ = some (.int .i64 fl) := fun m => by rw [hfl]; exact (T3.out.below (d9 m)).f.f.c1
            have r2 : ∀ m, (w3.drewN m).cell? ⟨r, 2, none⟩ = some (.int .i64 tp) := fun m => by rw [htp]; exact (T3.out.below (d9 m)).f.f.c2
            have r3 : ∀ m, (w3.drewN m).cell? ⟨r, 3, none⟩ = some (.int .i64 us) := fun m => by rw [hus]; exact (T3.out.below (d9 m)).f.f.c3
            clear hfl htp hus hlv d9 h3 Q3 X3 e9 ne9
            refine region_rest (C := fun w' => ∃ n, w' = w3.drewN n) 4 45 rfl (by kernel_rfl) (by kernel_rfl) ⟨0, rfl⟩ (by rintro w' ⟨n, rfl⟩; exact InB.of (w := w3.drewN n) XX3.out) ?_
            simp only [List.drop_succ_cons, List.drop_zero]
            repeat go_big_quiet_step (first
              | (go_at_call 14; exact Calls.quiet_of_same (C1.out _))
              | (go_at_call 15; exact Calls.quiet_of_same (C2.out _))
              | (go_at_call 16; exact Calls.quiet_of_same (C3.out _))
              | (go_at_call 17; exact Calls.quiet_of_same (C4.out _))
              | (go_at_call 18; exact Calls.quiet_of_same (C5.out _))
              | (go_at_call 19; exact Calls.quiet_of_same (C6.out _)))
            refine wpQuiet_nil ?_
            intro w4 hw4
            refine ⟨by trivial, ?_⟩
            have B34 : Below w3.heap.size w3 w4 := by
              obtain ⟨nq, rfl⟩ := hw4
              exact below_drewN (Below.refl _ _) nq
            have T4 : Hid (TwH w.heap.size w4 g r h1 h1 v2 L2) := T3.out.below B34
            have B4 : Hid (Below w.heap.size w w4) := below_step B3.out B3.out.size B34
            have X4 : Hid (w4.heap[p]? = some (.cells (actH x) 31 (0, 0))) := (B34.block p (Array.getElem?_eq_some_iff.1 XX3.out).1).trans XX3.out
            clear B34 hw4 r1 r2 r3 C1 C2 C3 C4 C5 C6 T3 B3 XX3
            obtain ⟨xe, hxe⟩ : ∃ xe, xe = x.epoch := ⟨_, rfl⟩
            have CO := countH_any w4 g h1 T4.out.o xe
            obtain ⟨c1, hc1⟩ : ∃ c1, c1 = (h1.cnt xe).1 := ⟨_, rfl⟩
            obtain ⟨c2, hc2⟩ : ∃ c2, c2 = (h1.cnt xe).2 := ⟨_, rfl⟩
            have RC : Hid (∀ W, Below w4.heap.size w4 W → Calls Try.prog 21 #[.pointer (some ⟨r, 0, none⟩), .int .i64 xe] W fun x w' => x = .returned (.tuple #[.int .i64 (c1 : Int), .int .i64 c2]) ∧ w' = W) := fun W hb => by
              rw [hc1, hc2]
              exact rcountH_any w.heap.size W r h1 v2 L2 (T4.out.below hb).f (by have := LN2.out; omega) xe
            obtain ⟨bf, hbf⟩ : ∃ bf, bf = fullH h1 xe := ⟨_, rfl⟩
            have HBF : Hid (bf = (decide (0 < c1) && decide ((c1 : Int) = c2))) := by
              show _ = _
              rw [hbf, hc1, hc2]
              rfl
            have FU : Hid (∀ W, Below w4.heap.size w4 W → Calls Try.prog 22 #[.pointer (some ⟨g, 0, none⟩), .int .i64 xe] W fun x w' => x = .returned (.bool bf) ∧ Below W.heap.size W w') := fun W hb => by
              rw [hbf]
              exact fullH_any W g h1 (T4.out.below hb).o xe
            have HE : Hid (∀ W, Below w4.heap.size w4 W → W.cell? ⟨p, 2, none⟩ = some (.int .i64 xe)) := fun W hb => by
              rw [hxe]
              exact (acthf_of (w := W) (off := 0) ((hb.block p (Array.getElem?_eq_some_iff.1 X4.out).1).trans X4.out) (fun j _ => by rw [Nat.zero_add])).c2
            have HC0 : Hid (xe < 1 → c1 = 0 ∧ c2 = 0) := fun he => by
              rw [hc1, hc2]
              exact cnt_none I1.out.ok he
            have j4 := HE.out w4 (Below.refl _ _)
            rw [← hc1, ← hc2] at CO
            clear hc1 hc2 hxe hbf
            by_cases he : xe < 1
            · obtain ⟨rfl, rfl⟩ := HC0.out he
              go_wp2_with (go_at_call 20; refine CO.mono ?_; rintro e w5 ⟨rfl, b5⟩; refine of_stopT ?_)
              unfold StopT
              have j5 := HE.out w5 b5
              have rc := RC.out w5 b5
              have fu := FU.out w5 b5
              rw [show bf = false by rw [HBF.out]; rfl] at fu
              have T5 : Hid (TwH w.heap.size w5 g r h1 h1 v2 L2) := T4.out.below b5
              have B5 : Hid (Below w.heap.size w w5) := below_step B4.out B4.out.size b5
              clear b5 CO j4
              go_wp2_with (first
                | (go_at_call 21; refine rc.mono ?_; rintro e w6 ⟨rfl, h6⟩; have h6 := h6.symm; subst h6)
                | (go_at_call 22; refine fu.mono ?_; rintro e w7 ⟨rfl, b7⟩; refine of_stopT ?_))
              unfold StopT
              have T7 : Hid (TwH w.heap.size w7 g r h1 h1 v2 L2) := T5.out.below b7
              have B7 : Hid (Below w.heap.size w w7) := below_step B5.out B5.out.size b7
              clear b7 fu rc
              go_wp2_with fail
              go_roundw
              case rel => exact ⟨k + 1, v2, L2, h1, by omega, by go_num, T7, I1, L1, by omega, LN2.out, B7.out⟩
              case measure => simp [intOf]; omega
            · by_cases p1 : 0 < c1
              · have p1' : (c1 : Int) > 0 := by omega
                by_cases p2 : (c1 : Int) = c2
                · subst p2
                  go_wp2_with (go_at_call 20; refine CO.mono ?_; rintro e w5 ⟨rfl, b5⟩; refine of_stopT ?_)
                  unfold StopT
                  have j5 := HE.out w5 b5
                  have rc := RC.out w5 b5
                  have fu := FU.out w5 b5
                  rw [show bf = true by rw [HBF.out]; simp [p1]] at fu
                  have T5 : Hid (TwH w.heap.size w5 g r h1 h1 v2 L2) := T4.out.below b5
                  have B5 : Hid (Below w.heap.size w w5) := below_step B4.out B4.out.size b5
                  clear b5 CO j4
                  go_wp2_with (first
                    | (go_at_call 21; refine rc.mono ?_; rintro e w6 ⟨rfl, h6⟩; have h6 := h6.symm; subst h6)
                    | (go_at_call 22; refine fu.mono ?_; rintro e w7 ⟨rfl, b7⟩; refine of_stopT ?_))
                  unfold StopT
                  have T7 : Hid (TwH w.heap.size w7 g r h1 h1 v2 L2) := T5.out.below b7
                  have B7 : Hid (Below w.heap.size w w7) := below_step B5.out B5.out.size b7
                  clear b7 fu rc
                  go_wp2_with fail
                  go_roundw
                  case rel => exact ⟨k + 1, v2, L2, h1, by omega, by go_num, T7, I1, L1, by omega, LN2.out, B7.out⟩
                  case measure => simp [intOf]; omega
                · have p2' : ((c1 : Int) == c2) = false := by simpa using p2
                  go_wp2_with (go_at_call 20; refine CO.mono ?_; rintro e w5 ⟨rfl, b5⟩; refine of_stopT ?_)
                  unfold StopT
                  have j5 := HE.out w5 b5
                  have rc := RC.out w5 b5
                  have fu := FU.out w5 b5
                  rw [show bf = false by rw [HBF.out]; simp [p2]] at fu
                  clear p2
                  have T5 : Hid (TwH w.heap.size w5 g r h1 h1 v2 L2) := T4.out.below b5
                  have B5 : Hid (Below w.heap.size w w5) := below_step B4.out B4.out.size b5
                  clear b5 CO j4
                  go_wp2_with (first
                    | (go_at_call 21; refine rc.mono ?_; rintro e w6 ⟨rfl, h6⟩; have h6 := h6.symm; subst h6)
                    | (go_at_call 22; refine fu.mono ?_; rintro e w7 ⟨rfl, b7⟩; refine of_stopT ?_))
                  unfold StopT
                  have T7 : Hid (TwH w.heap.size w7 g r h1 h1 v2 L2) := T5.out.below b7
                  have B7 : Hid (Below w.heap.size w w7) := below_step B5.out B5.out.size b7
                  clear b7 fu rc
                  go_wp2_with fail
                  go_roundw
                  case rel => exact ⟨k + 1, v2, L2, h1, by omega, by go_num, T7, I1, L1, by omega, LN2.out, B7.out⟩
                  case measure => simp [intOf]; omega
              · have p1' : ¬ (c1 : Int) > 0 := by omega
                go_wp2_with (go_at_call 20; refine CO.mono ?_; rintro e w5 ⟨rfl, b5⟩; refine of_stopT ?_)
                unfold StopT
                have j5 := HE.out w5 b5
                have rc := RC.out w5 b5
                have fu := FU.out w5 b5
                rw [show bf = false by rw [HBF.out]; simp [p1]] at fu
                have T5 : Hid (TwH w.heap.size w5 g r h1 h1 v2 L2) := T4.out.below b5
                have B5 : Hid (Below w.heap.size w w5) := below_step B4.out B4.out.size b5
                clear b5 CO j4
                go_wp2_with (first
                  | (go_at_call 21; refine rc.mono ?_; rintro e w6 ⟨rfl, h6⟩; have h6 := h6.symm; subst h6)
                  | (go_at_call 22; refine fu.mono ?_; rintro e w7 ⟨rfl, b7⟩; refine of_stopT ?_))
                unfold StopT
                have T7 : Hid (TwH w.heap.size w7 g r h1 h1 v2 L2) := T5.out.below b7
                have B7 : Hid (Below w.heap.size w w7) := below_step B5.out B5.out.size b7
                clear b7 fu rc
                go_wp2_with fail
                go_roundw
                case rel => exact ⟨k + 1, v2, L2, h1, by omega, by go_num, T7, I1, L1, by omega, LN2.out, B7.out⟩
                case measure => simp [intOf]; omega
      · have hl80' : ¬ (k : Int) < 80 := by omega
        go_wp2_with fail
        go_ret
        exact ⟨rfl, HB.out⟩
    · have hlt' : ¬ (k : Int) < (q : Int) := by omega
      go_wp2_with fail
      go_ret
      exact ⟨rfl, HB.out⟩
end Go.Proofs.Ytbigifmfbibgoaa
