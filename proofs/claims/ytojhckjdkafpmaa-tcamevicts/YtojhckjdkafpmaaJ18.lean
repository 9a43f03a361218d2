import Derived.Test.YtojhckjdkafpmaaJ17
namespace Go.Proofs.Ytojhckjdkafpmaa
open Go Go.RowKit
set_option maxRecDepth 20000

theorem rcanC_any (c : Cub) (h : OkC c) (w : World) : Calls Try.prog 23 #[.agg (cv (pad c.1) (pad c.2))] w fun e w' => e = .returned (.agg (cv (pad (canC c).1) (pad (canC c).2))) ∧ Below w.heap.size w w' := by
  have h' := canC_ok h
  rw [pad_id h.1.1, pad_id h.2.1, pad_id h'.1.1, pad_id h'.2.1]
  exact rcanon_any c.1 c.2 h.1 h.2 w
theorem lay_bks {L : List Slt} {s : Slt} {b : Nat} (hb : b = 2 ∨ b = 3) (hs : s.bank = (b : Int)) : bks (L ++ [s]) = putB (bks L) b (bankL (bks L) b ++ [s]) := by
  have key := fun q => lay_more_L (L := L) hs q
  rcases hb with rfl | rfl
  · apply bks_ext
    · exact (key 1).trans (if_neg (by decide))
    · exact (key 2).trans (if_pos rfl)
    · exact (key 3).trans (if_neg (by decide))
  · apply bks_ext
    · exact (key 1).trans (if_neg (by decide))
    · exact (key 2).trans (if_neg (by decide))
    · exact (key 3).trans (if_pos rfl)
theorem any_no {D : List Slt} {p : Slt → Bool} (h : ∀ j y, j < D.length → D[j]? = some y → p y = false) : D.any p = false := by
  rw [List.any_eq_false]
  intro y hy
  obtain ⟨j, hj⟩ := List.mem_iff_getElem?.1 hy
  rw [h j y (List.getElem?_eq_some_iff.1 hj).1 hj]
  simp
theorem any_yes {D : List Slt} {p : Slt → Bool} {k : Nat} {y : Slt} (h : D[k]? = some y) (hp : p y = true) : D.any p = true := by
  rw [List.any_eq_true]
  exact ⟨y, List.mem_of_getElem? h, hp⟩
theorem bank_snoc {L : List Slt} {s : Slt} (h : InBanks L) (hs : s.bank = 1 ∨ s.bank = 2 ∨ s.bank = 3) : InBanks (L ++ [s]) := by
  intro y hy
  rcases List.mem_append.1 hy with h1 | h1
  · exact h y h1
  · obtain rfl : y = s := by simpa using h1
    exact hs
/-- What an append to the reference's list leaves. -/
theorem rapp_fin {B : Nat} {w W : World} {r gr : Nat} {R : Rm} {L : List Slt} {vl : Value} {s : Slt} (h : RTabV B w r gr R L vl) (hB : Below w.heap.size w W) (v' : Value) (w9 : World) (hown : SlotsAt B w9 v' (L ++ [s])) (hgr : (W.drew.alloc (.cells (slotV s) 38)).grownBy w9 vl.ownBlock) (hat : v'.ownBlock = vl.ownBlock ∨ v'.ownBlock = some (W.drew.alloc (.cells (slotV s) 38)).heap.size) :
    (∃ o n c, v' = .slice o n c) ∧ w9.cell? ⟨r, 0, none⟩ = some vl ∧ w9.frozen? ⟨r, 0, none⟩ = false ∧ (∀ q o, ¬ footR r gr vl q → W.heap[q]? = some o → w9.heap[q]? = some o ∧ (w9.setCell ⟨r, 0, none⟩ v').heap[q]? = some o) ∧ RTabTo B w (w9.setCell ⟨r, 0, none⟩ v') r gr R (L ++ [s]) vl := by
  have hBW : Below w.heap.size w (W.drew.alloc (.cells (slotV s) 38)) := (hB.trans ((Below.refl _ _).drew.mono hB.size)).alloc (by have := hB.size; exact this) _
  have hT := h.below hBW
  have hk : Kept (rowX vl) (W.drew.alloc (.cells (slotV s) 38)) w9 := Kept.of_grown hgr fun k e => e
  have n1 : ¬ rowX vl r := h.own.ty h.blk (by decide)
  have n2 : ¬ rowX vl gr := h.own.ty h.room (by decide)
  have hb9 := hk.heap hT.blk n1
  have hr9 := hk.heap hT.room n2
  have hne : gr ≠ r := fun e => by
    subst e
    have h1 := h.room
    rw [h.blk] at h1
    simp only [Option.some.injEq, Obj.cells.injEq] at h1
    exact absurd h1.2.1 (by decide)
  have kS : Kept (isB r) w9 (w9.setCell ⟨r, 0, none⟩ v') := ⟨rfl, rfl, rfl, by simp [World.setCell], fun k _ e => heap_setCell_other w9 ⟨r, 0, none⟩ k _ e⟩
  have hrs := (Array.getElem?_eq_some_iff.1 h.blk).1
  have hws := hBW.size
  have hvr : ∀ k, v'.ownBlock = some k → vl.ownBlock = some k ∨ w.heap.size ≤ k := fun k hk => by
    rcases hat with e | e
    · exact .inl (e ▸ hk)
    · rw [e] at hk
      simp only [Option.some.injEq] at hk
      omega
  obtain ⟨o, c, e, _⟩ := hown.slice
  refine ⟨⟨o, _, c, e⟩, by rw [cell_of_row _ _ _ _ _ _ hb9]; rfl, by simp [World.frozen?, hb9], fun q ob hq hqo => ?_, v', ⟨heap_setCell_same w9 r 0 _ _ v' hb9, kS.heap hr9 hne, hown.kept kS fun k e e' => ?_, h.hB, h.hR⟩, ?_, fun k hk => ?_⟩
  · have h1 : w9.heap[q]? = some ob := hk.heap (heap_past _ _ _ _ hqo) fun e => hq (.inr (.inr e))
    exact ⟨h1, by rw [heap_setCell_other _ _ _ _ (fun e => hq (.inl e))]; exact h1⟩
  · unfold isB at e'
    subst e'
    rcases hvr k e with e | e
    · exact n1 e
    · omega
  · exact (Kept.pre hBW (hk.mono fun k _ e => (.inr (.inr e) : footR r gr vl k))).trans kS fun k e => .inl (.inl e)
  · rcases hk with e | e | e
    · exact .inl (.inl e)
    · exact .inl (.inr (.inl e))
    · rcases hvr k e with e | e
      · exact .inl (.inr (.inr e))
      · exact .inr e
set_option maxHeartbeats 32000000 in
theorem rlay_any (B : Nat) (w : World) (r gr : Nat) (R : Rm) (L : List Slt) (vl : Value) (h : RTabV B w r gr R L vl) (s : Slt) (hok : OkC s.cube) (hn : L.length ≤ 1000000) (hib : InBanks L) :
    Calls Try.prog 30 #[.pointer (some ⟨r, 0, none⟩), .agg (slotV s)] w fun e w' => e = .returned (.int .i64 (layB R (bks L) s).2) ∧ RDone B w w' r gr R vl (layB R (bks L) s).1 := by
  have B0 : Hid (Below w.heap.size w (w.alloc (.cells (slotV s) 38))) := (Below.refl _ _).alloc (Nat.le_refl _) _
  have c0 := (new_slf w s 38).c0
  have Q0 : Hid ((w.alloc (.cells (slotV s) 38)).heap[w.heap.size]? = some (.cells (slotV s) 38 (0, 0))) := heap_new _ _ _ rfl
  have HT9 : Hid (RTabV B w r gr R L vl) := h
  have HIB : Hid (InBanks L) := hib
  have LEN9 : Hid (L.length ≤ 1000000) := hn
  have CA : Hid (∀ W, Calls Try.prog 23 #[.agg (cv (pad s.cube.1) (pad s.cube.2))] W fun e w' => e = .returned (.agg (cv (pad (canC s.cube).1) (pad (canC s.cube).2))) ∧ Below W.heap.size W w') := rcanC_any s.cube hok
  have SL : Hid (∀ b W, Below w.heap.size w W → Calls Try.prog 38 #[.pointer (some ⟨r, 0, none⟩), .int .i64 b] W fun e w' => (∃ u, e = .returned u ∧ SlotsAt W.heap.size w' u (bkOf L b)) ∧ Below W.heap.size W w') := by
    intro b W hb
    exact rslots_any B W r gr R L vl (h.below hb) b hn
  have BB9 : Hid (B ≤ w.heap.size) := by show _ ≤ _; have h9 := h.hB; have h8 := (Array.getElem?_eq_some_iff.1 h.blk).1; omega
  have QG9 : Hid (¬ footR r gr vl w.heap.size) := by intro e; have h9 := (h.foot_in _ e).2; omega
  clear h hib hok hn
  by_cases hb2 : s.bank = 2
  · have EL : Hid (layB R (bks L) s = (putB (bks L) 2 (layT R.auth (bkOf L 2) s (canC s.cube)).1, (layT R.auth (bkOf L 2) s (canC s.cube)).2)) := layB_at (b := 2) (.inl rfl) hb2
    have HBK : Hid (s.bank = 2) := hb2
    rw [hb2] at c0
    have SL1 := SL.out 2 _ B0.out
    clear SL hb2
    go_enter Try.func30, Try.ntmps30
    go_wp2_with (go_at_call 38; refine SL1.mono ?_; rintro q w1 ⟨⟨u, rfl, hu⟩, hb1⟩; refine of_stopS ?_)
    unfold StopS
    have B1 : Hid (Below w.heap.size w w1) := below_step B0.out B0.out.size hb1
    have Q1 : Hid (w1.heap[w.heap.size]? = some (.cells (slotV s) 38 (0, 0))) := (hb1.block _ (Array.getElem?_eq_some_iff.1 Q0.out).1).trans Q0.out
    obtain ⟨o, cap, rfl, hc1, hc2⟩ := hu.slice
    have hl := hu.sl
    obtain ⟨D, hD⟩ : ∃ D, D = bkOf L 2 := ⟨_, rfl⟩
    rw [← hD] at hl hc1 EL
    obtain ⟨n, hn0⟩ : ∃ n, n = D.length := ⟨_, rfl⟩
    have HN : Hid (n = D.length) := hn0
    have HDL : Hid (D = bkOf L 2) := hD
    rw [← hD, ← hn0]
    rw [← hn0] at hl hc1
    have HD : Hid (GSl SlotE slotV w1 (.slice o n cap) D) := hl
    unfold maxLen at hc2
    clear hl hu hb1 SL1 hD hn0 Q0 B0 c0
    go_wp2_with fail
    go_loopw [6] (fun i wr => ∃ k : Nat, k ≤ n ∧ i = .int .i64 (k : Int) ∧ Hid (∀ j y, j < k → D[j]? = some y → atS s y = false) ∧ Hid (wr.heap[w.heap.size]? = some (.cells (slotV s) 38 (0, 0))) ∧ Hid (Below w1.heap.size w1 wr)) (fun i _ => n - (intOf i).toNat)
    case atStart => exact ⟨0, Nat.zero_le _, rfl, fun j y hj => by omega, Q1, Below.refl _ _⟩
    case round =>
      obtain ⟨k, hk, rfl, HP, HQ, HB⟩ := hrel
      have BW : Hid (Below w.heap.size w wr) := below_step B1.out B1.out.size HB.out
      by_cases hlt : k < n
      · have hlt' : (k : Int) < (n : Int) := by omega
        obtain ⟨g', off, cur, ty, fr, y, rfl, hg, hcc, hyk⟩ := (GSl.below HD.out HB.out).at k hlt
        have HY : Hid (D[k]? = some y) := hyk
        have e1 : ∀ u : Later wr, u.world.cell? ⟨g', off + k * 36 + 1, none⟩ = some (.int .i64 y.epoch) := fun u => ((slf_of hg hcc).below ((later_block hg _ ⟨u, rfl⟩).trans hg.symm)).c1
        have e2 : ∀ u : Later wr, u.world.cell? ⟨g', off + k * 36 + 2, none⟩ = some (.int .i64 y.place) := fun u => ((slf_of hg hcc).below ((later_block hg _ ⟨u, rfl⟩).trans hg.symm)).c2
        have s1 : ∀ u : Later wr, u.world.cell? ⟨w.heap.size, 1, none⟩ = some (.int .i64 s.epoch) := fun u => by have := (later_slf HQ.out (slf_own HQ.out) u).c1; simpa using this
        have s2 : ∀ u : Later wr, u.world.cell? ⟨w.heap.size, 2, none⟩ = some (.int .i64 s.place) := fun u => by have := (later_slf HQ.out (slf_own HQ.out) u).c2; simpa using this
        have ne1 := Later.ne wr
        have HM : Hid (atS s y = ((y.epoch == s.epoch) && (y.place == s.place))) := rfl
        obtain ⟨ye, hye⟩ : ∃ ye, ye = y.epoch := ⟨_, rfl⟩
        obtain ⟨yp, hyp⟩ : ∃ yp, yp = y.place := ⟨_, rfl⟩
        obtain ⟨se, hse⟩ : ∃ se, se = s.epoch := ⟨_, rfl⟩
        obtain ⟨sp, hsp⟩ : ∃ sp, sp = s.place := ⟨_, rfl⟩
        rw [← hye] at e1 HM
        rw [← hyp] at e2 HM
        rw [← hse] at s1 HM
        rw [← hsp] at s2 HM
        clear hg hcc hyk hye hyp hse hsp
        by_cases q1 : ye = se
        · subst q1
          have qd : (ye == ye) = true := by simp
          by_cases q2 : yp = sp
          · subst q2
            have qp : (yp == yp) = true := by simp
            have HMM : Hid (atS s y = true) := by show _ = _; rw [HM.out, qd, qp]; rfl
            go_wp2_with fail
            refine wp_region_later (by kernel_rfl) (by kernel_rfl) ?_
            go_big_quiet_step (rfl)
            go_big_quiet_step (rfl)
            go_big_quiet_step (rfl)
            go_big_quiet_step (rfl)
            go_big_quiet_step (rfl)
            go_big_quiet_step (rfl)
            go_big_quiet_step (rfl)
            go_big_quiet_step (rfl)
            go_big_quiet_step (rfl)
            go_big_quiet_step (rfl)
            go_big_quiet_step (rfl)
            go_big_quiet_step (rfl)
            go_big_quiet_step (rfl)
            go_big_quiet_step (rfl)
            go_big_quiet_step (rfl)
            go_big_quiet_step (rfl)
            go_big_quiet_step (rfl)
            go_big_quiet_step (rfl)
            refine wpQuiet_nil ?_
            rintro w' ⟨u, rfl⟩
            go_wp2_with fail
            go_ret
            have EA : D.any (atS s) = true := any_yes HY.out HMM.out
            have EX : layB R (bks L) s = (bks L, 9) := by rw [EL.out]; unfold layT; rw [if_pos EA, HDL.out]; exact Prod.ext (putB_same (S := bks L) (.inl rfl)) rfl
            rw [EX]
            exact ⟨rfl, L, HT9.out.same (below_step BW.out BW.out.size u.below), rfl, HIB.out⟩
          · have qp : (yp == sp) = false := by simpa using q2
            have HMM : Hid (atS s y = false) := by show _ = _; rw [HM.out, qd, qp]; rfl
            go_wp2_with fail
            refine wp_region_later (by kernel_rfl) (by kernel_rfl) ?_
            go_big_quiet_step (rfl)
            go_big_quiet_step (rfl)
            go_big_quiet_step (rfl)
            go_big_quiet_step (rfl)
            go_big_quiet_step (rfl)
            go_big_quiet_step (rfl)
            go_big_quiet_step (rfl)
            go_big_quiet_step (rfl)
            go_big_quiet_step (rfl)
            go_big_quiet_step (rfl)
            go_big_quiet_step (rfl)
            go_big_quiet_step (rfl)
            go_big_quiet_step (rfl)
            go_big_quiet_step (rfl)
            go_big_quiet_step (rfl)
            go_big_quiet_step (rfl)
            go_big_quiet_step (rfl)
            go_big_quiet_step (rfl)
            refine wpQuiet_nil ?_
            rintro w' ⟨u, rfl⟩
            go_wp2_with fail
            go_roundw
            case rel =>
              refine ⟨k + 1, by omega, by go_num, fun j z hj hz => ?_, later_block HQ.out _ ⟨u, rfl⟩, below_step HB.out HB.out.size u.below⟩
              by_cases e : j = k
              · subst e; rw [HY.out] at hz; cases hz; exact HMM.out
              · exact HP.out j z (by omega) hz
            case measure => simp [intOf]; omega
        · have qd : (ye == se) = false := by simpa using q1
          have HMM : Hid (atS s y = false) := by show _ = _; rw [HM.out, qd]; rfl
          go_wp2_with fail
          refine wp_region_later (by kernel_rfl) (by kernel_rfl) ?_
          go_big_quiet_step (rfl)
          go_big_quiet_step (rfl)
          go_big_quiet_step (rfl)
          go_big_quiet_step (rfl)
          go_big_quiet_step (rfl)
          go_big_quiet_step (rfl)
          go_big_quiet_step (rfl)
          go_big_quiet_step (rfl)
          go_big_quiet_step (rfl)
          go_big_quiet_step (rfl)
          go_big_quiet_step (rfl)
          go_big_quiet_step (rfl)
          go_big_quiet_step (rfl)
          go_big_quiet_step (rfl)
          go_big_quiet_step (rfl)
          go_big_quiet_step (rfl)
          go_big_quiet_step (rfl)
          go_big_quiet_step (rfl)
          refine wpQuiet_nil ?_
          rintro w' ⟨u, rfl⟩
          go_wp2_with fail
          go_roundw
          case rel =>
            refine ⟨k + 1, by omega, by go_num, fun j z hj hz => ?_, later_block HQ.out _ ⟨u, rfl⟩, below_step HB.out HB.out.size u.below⟩
            by_cases e : j = k
            · subst e; rw [HY.out] at hz; cases hz; exact HMM.out
            · exact HP.out j z (by omega) hz
          case measure => simp [intOf]; omega
      · have hlt' : ¬ (k : Int) < (n : Int) := by omega
        have EA : Hid (D.any (atS s) = false) := any_no fun j y hj hy => HP.out j y (by have := HN.out; omega) hy
        have d1 : ∀ u : Later wr, u.world.cell? ⟨r, 1, none⟩ = some (.slice (some ⟨gr, 0, none⟩) 4 4) := fun u => (HT9.out.below (below_step BW.out BW.out.size u.below)).f.c1
        have d2 : ∀ u : Later wr, u.world.cell? ⟨gr, 2, none⟩ = some (.int .i64 R.auth) := fun u => (HT9.out.below (below_step BW.out BW.out.size u.below)).f.r2
        have s0 : ∀ u : Later wr, u.world.cell? ⟨w.heap.size, 0, none⟩ = some (.int .i64 2) := fun u => by have h9 := (later_slf HQ.out (slf_own HQ.out) u).c0; rw [HBK.out] at h9; exact h9
        have ne1 := Later.ne wr
        obtain ⟨rm, hrm⟩ : ∃ rm, rm = R.auth := ⟨_, rfl⟩
        rw [← hrm] at d2 EL
        clear hrm HP
        by_cases hf : n = rm
        · have hfd : ((n : Int) == (rm : Int)) = true := by rw [hf]; simp
          have ER : Hid (layB R (bks L) s = (bks L, 13)) := by show _ = _; rw [EL.out]; unfold layT; rw [if_neg (by rw [EA.out]; simp), if_pos (by rw [← HN.out]; exact hf), HDL.out]; exact Prod.ext (putB_same (S := bks L) (.inl rfl)) rfl
          clear hf
          go_wp2_with fail
          refine wp_region_later (by kernel_rfl) (by kernel_rfl) ?_
          go_big_quiet_step (rfl)
          go_big_quiet_step (rfl)
          go_big_quiet_step (rfl)
          refine q_nilT rfl _ rfl _ rfl ?_
          simp only [Act.put, List.setIfInBounds_toArray, List.set_cons_succ, List.set_cons_zero]
          go_big_quiet_step (rfl)
          go_big_quiet_step (rfl)
          go_big_quiet_step (rfl)
          go_big_quiet_step (rfl)
          go_big_quiet_step (rfl)
          go_big_quiet_step (rfl)
          go_big_quiet_step (rfl)
          refine wpQuiet_nil ?_
          rintro w' ⟨u, rfl⟩
          go_wp2_with fail
          go_ret
          rw [ER.out]
          exact ⟨rfl, L, HT9.out.same (below_step BW.out BW.out.size u.below), rfl, HIB.out⟩
        · have hfd : ((n : Int) == (rm : Int)) = false := by simp; omega
          have ER : Hid (layB R (bks L) s = (putB (bks L) 2 (bankL (bks L) 2 ++ [laidS s (canC s.cube)]), 0)) := by show _ = _; rw [EL.out]; unfold layT; rw [if_neg (by rw [EA.out]; simp), if_neg (by rw [← HN.out]; exact hf), HDL.out]; rfl
          go_wp2_with fail
          refine wp_region_later (by kernel_rfl) (by kernel_rfl) ?_
          go_big_quiet_step (rfl)
          go_big_quiet_step (rfl)
          go_big_quiet_step (rfl)
          refine q_nilT rfl _ rfl _ rfl ?_
          simp only [Act.put, List.setIfInBounds_toArray, List.set_cons_succ, List.set_cons_zero]
          go_big_quiet_step (rfl)
          go_big_quiet_step (rfl)
          go_big_quiet_step (rfl)
          go_big_quiet_step (rfl)
          go_big_quiet_step (rfl)
          go_big_quiet_step (rfl)
          go_big_quiet_step (rfl)
          refine wpQuiet_nil ?_
          rintro w' ⟨u, rfl⟩
          have B2 : Hid (Below w.heap.size w u.world) := below_step BW.out BW.out.size u.below
          have Q2 : Hid (u.world.heap[w.heap.size]? = some (.cells (slotV s) 38 (0, 0))) := later_block HQ.out _ ⟨u, rfl⟩
          obtain ⟨w2, hw2⟩ : ∃ w2, u.world = w2 := ⟨_, rfl⟩
          rw [hw2] at B2 Q2
          rw [hw2]
          clear hw2 d1 d2 s0 ne1 EL EA HQ HB BW hf hfd hlt hlt'
          go_wp2_with (first | ((with_reducible refine wl_gC _ rfl ?_); refine wl_loadCw rfl _ rfl w.heap.size 4 rfl _ _ _ (pad s.cube.1) (pad s.cube.2) (pad_len _) (pad_len _) Q2.out (slotV_cube s) ?_) | (go_at_call 23; refine (CA.out _).mono ?_; rintro e w3 ⟨rfl, hb3⟩; have B3 : Hid (Below w.heap.size w w3) := below_step B2.out B2.out.size hb3; have Q3 : Hid (w3.heap[w.heap.size]? = some (.cells (slotV s) 38 (0, 0))) := (hb3.block _ (Array.getElem?_eq_some_iff.1 Q2.out).1).trans Q2.out; clear hb3; refine of_stopS ?_))
          unfold StopS
          obtain ⟨w4, hw4⟩ : ∃ w4, World.setRow w3 w.heap.size (slotV { s with cube := canC s.cube }) = w4 := ⟨_, rfl⟩
          have HW4 : Hid (_ = w4) := hw4
          have Q4 : Hid (w4.heap[w.heap.size]? = some (.cells (slotV { s with cube := canC s.cube }) 38 (0, 0))) := by show _ = _; rw [← hw4]; exact setRow_heap _ _ _ _ _ _ Q3.out
          have K4 : Hid (Kept (isB w.heap.size) w3 w4) := by show Kept _ _ _; rw [← hw4]; exact kept_setRow _ _ _
          clear hw4
          obtain ⟨l1, l2, l3, l4, l5, l6, l7, l8⟩ := laid_worlds (W := w4) Q4.out
          have L7 : Hid _ := l7
          have L8 : Hid _ := l8
          clear l7 l8
          go_wp2_with (first | ((with_reducible refine wl_gSC _ _ rfl ?_); refine wl_storeCub rfl _ _ rfl w.heap.size s (canC s.cube) rfl rfl Q3.out w4 HW4.out ?_))
          obtain ⟨w5, hw5⟩ : ∃ w5, w5 = World.setCell (World.setCell (World.setCell w4 ⟨w.heap.size, 33, none⟩ (.int .i64 0)) ⟨w.heap.size, 34, none⟩ (.int .i64 0)) ⟨w.heap.size, 35, none⟩ (.int .i64 0) := ⟨_, rfl⟩
          have Q9 : Hid (w5.heap[w.heap.size]? = some (.cells (slotV (laidS s (canC s.cube))) 38 (0, 0))) := by show _ = _; rw [hw5]; exact L7.out
          have BW9 : Hid (Below w.heap.size w w5) := by show Below _ _ _; rw [hw5]; exact below_kept ((Kept.of_below (X := isB w.heap.size) B3.out).trans (K4.out.trans L8.out fun k hk => .inl hk) fun k hk => .inl hk) fun k hk => by unfold isB at hk; omega
          rw [← hw5]
          clear hw5 l1 l2 l3 l4 l5 l6 L7 L8 K4 Q4 HW4
          have TT9 : Hid (RTabV B w5 r gr R L vl) := HT9.out.below BW9.out
          refine region_cut (fun a a' w' => ∃ y61 y62 y63 y64 y65 y66 y67 y68 y69 y70 v' w9, a' = ((((((((((a.put (some 61) y61).put (some 62) y62).put (some 63) y63).put (some 64) y64).put (some 65) y65).put (some 66) y66).put (some 67) y67).put (some 68) y68).put (some 69) y69).put (some 70) y70) ∧ w' = World.setCell w9 ⟨r, 0, none⟩ v' ∧ RTabTo B w (World.setCell w9 ⟨r, 0, none⟩ v') r gr R (L ++ [(laidS s (canC s.cube))]) vl ∧ (∀ j ob, ¬ footR r gr vl j → (World.heap w5)[j]? = some ob → (World.setCell w9 ⟨r, 0, none⟩ v').heap[j]? = some ob)) ?_ ?_
          · have ne9 : Nonempty (KeepO w.heap.size (.cells (slotV (laidS s (canC s.cube))) 38 (0, 0))) := ⟨⟨w5, Q9.out⟩⟩
            refine region_beginS (InO w.heap.size (.cells (slotV (laidS s (canC s.cube))) 38 (0, 0))) 11 rfl (by kernel_rfl) ?_
            refine region_reads 0 2 9 rfl (by kernel_rfl) (by kernel_rfl) (by kernel_rfl) (by intro d v c a w h; exact absurd h.1 (by simp)) (InO.of (w := World.drew w5) Q9.out) ?_
            simp only [List.drop_zero, List.take_succ_cons, List.take_zero]
            go_big_quiet_step (rfl)
            go_big_quiet_step (rfl)
            refine wpQuiet_nil ?_
            refine take_nil (i := 2) (some 63) rfl rfl _ rfl _ rfl rfl (by kernel_rfl) (by kernel_rfl) (by kernel_rfl) (InO.of (w := World.drew w5) Q9.out) ?_
            simp only [Act.put, List.setIfInBounds_toArray, List.set_cons_succ, List.set_cons_zero]
            refine region_reads 3 1 7 rfl (by kernel_rfl) (by kernel_rfl) (by kernel_rfl) (by intro d v c a w h; exact absurd h.1 (by simp)) (InO.of (w := World.drew w5) Q9.out) ?_
            simp only [List.drop_succ_cons, List.drop_zero, List.take_succ_cons, List.take_zero]
            go_big_quiet_step (rfl)
            refine wpQuiet_nil ?_
            refine region_reads 5 1 6 rfl (by kernel_rfl) (by kernel_rfl) (by kernel_rfl) (by intro d v c a w h; exact absurd h.1 (by simp)) (InO.of (w := World.drew w5) Q9.out) ?_
            simp only [List.drop_succ_cons, List.drop_zero, List.take_succ_cons, List.take_zero]
            refine qlE (E := SlotE) SlotOk rfl _ rfl w.heap.size 0 rfl _ _ _ (slotV (laidS s (canC s.cube))) (slotV_size _) (by rintro w' ⟨z, rfl⟩; exact z.k1) (own_cells _ _) ?_
            simp only [Act.put, List.setIfInBounds_toArray, List.set_cons_succ, List.set_cons_zero]
            refine wpQuiet_nil ?_
            refine wpAnyH_all (rs := [4, 6]) (by kernel_rfl) (by decide) ?_
            intro i hi
            simp only [List.mem_cons, List.not_mem_nil, or_false] at hi
            rcases hi with rfl | rfl
            · skip
              refine wpOp_val rfl rfl vl (load_sl rfl _ _ ⟨r, 0, none⟩ vl rfl ((RTabV.below TT9.out (by first | exact (Below.refl _ _).drew | exact (Below.refl _ _).drew.alloc (Nat.le_refl _) _)).f.c0)) (some 65) rfl ?_
              refine ⟨InO.of (w := World.drew w5) Q9.out, ?_⟩
              simp only [Act.put, List.setIfInBounds_toArray, List.set_cons_succ, List.set_cons_zero]
              refine wpAnyH_all (rs := [6]) (by kernel_rfl) (by decide) ?_
              intro i hi
              obtain rfl := List.mem_singleton.1 hi
              refine wpOp_build1S rfl rfl _ rfl (laidS s (canC s.cube)) rfl (some 67) rfl ?_
              refine ⟨InO.of (heap_past _ _ _ _ Q9.out), ?_⟩
              simp only [Act.put, List.setIfInBounds_toArray, List.set_cons_succ, List.set_cons_zero]
              refine wpAnyH_all (rs := [7]) (by kernel_rfl) (by decide) ?_
              intro i hi
              obtain rfl := List.mem_singleton.1 hi
              refine wpOp_appendS rfl rfl _ _ rfl B vl L (laidS s (canC s.cube)) rfl ((TT9.out.below ((Below.refl _ _).drew.alloc (Nat.le_refl _) _)).own) _ 1 rfl (heap_new _ _ _ rfl) LEN9.out (by have h9 := BW9.out.size; have h8 := BB9.out; simp; omega) (some 68) rfl ?_
              intro v' w9 hown9 hgr9 hat9
              have F9 := rapp_fin (s := (laidS s (canC s.cube))) HT9.out BW9.out v' w9 hown9 hgr9 hat9
              obtain ⟨⟨o9, n9, c9, rfl⟩, ce9, fz9, bl9, tt9⟩ := F9
              refine ⟨InO.of (bl9 _ _ QG9.out Q9.out).1, ?_⟩
              simp only [Act.put, List.setIfInBounds_toArray, List.set_cons_succ, List.set_cons_zero]
              refine take_nil (i := 8) (some 69) rfl rfl _ rfl _ rfl rfl (by kernel_rfl) (by kernel_rfl) (by kernel_rfl) (InO.of (bl9 _ _ QG9.out Q9.out).1) ?_
              simp only [Act.put, List.setIfInBounds_toArray, List.set_cons_succ, List.set_cons_zero]
              refine region_reads 9 1 1 rfl (by kernel_rfl) (by kernel_rfl) (by kernel_rfl) (by intro d v c a w h; exact absurd h.1 (by simp)) (InO.of (bl9 _ _ QG9.out Q9.out).1) ?_
              simp only [List.drop_succ_cons, List.drop_zero, List.take_succ_cons, List.take_zero]
              go_big_quiet_step (rfl)
              refine wpQuiet_nil ?_
              refine wpAnyH_all (rs := [10]) (by kernel_rfl) (by decide) ?_
              intro i hi
              obtain rfl := List.mem_singleton.1 hi
              refine wpOp_skip0 rfl rfl (store_sl rfl _ _ ⟨r, 0, none⟩ _ _ _ _ rfl rfl ce9 fz9) rfl ?_
              refine ⟨InO.of (bl9 _ _ QG9.out Q9.out).2, ?_⟩
              refine wpAnyH_done (by kernel_rfl) ?_ _
              exact ⟨rfl, _, _, _, _, _, _, _, _, _, _, _, w9, rfl, rfl, tt9, fun j ob h1 h2 => (bl9 j ob h1 h2).2⟩
            · skip
              refine wpOp_build1S rfl rfl _ rfl (laidS s (canC s.cube)) rfl (some 67) rfl ?_
              refine ⟨InO.of (heap_past _ _ _ _ Q9.out), ?_⟩
              simp only [Act.put, List.setIfInBounds_toArray, List.set_cons_succ, List.set_cons_zero]
              refine wpAnyH_all (rs := [4]) (by kernel_rfl) (by decide) ?_
              intro i hi
              obtain rfl := List.mem_singleton.1 hi
              refine wpOp_val rfl rfl vl (load_sl rfl _ _ ⟨r, 0, none⟩ vl rfl ((RTabV.below TT9.out (by first | exact (Below.refl _ _).drew | exact (Below.refl _ _).drew.alloc (Nat.le_refl _) _)).f.c0)) (some 65) rfl ?_
              refine ⟨InO.of (heap_past _ _ _ _ Q9.out), ?_⟩
              simp only [Act.put, List.setIfInBounds_toArray, List.set_cons_succ, List.set_cons_zero]
              refine wpAnyH_all (rs := [7]) (by kernel_rfl) (by decide) ?_
              intro i hi
              obtain rfl := List.mem_singleton.1 hi
              refine wpOp_appendS rfl rfl _ _ rfl B vl L (laidS s (canC s.cube)) rfl ((TT9.out.below ((Below.refl _ _).drew.alloc (Nat.le_refl _) _)).own) _ 1 rfl (heap_new _ _ _ rfl) LEN9.out (by have h9 := BW9.out.size; have h8 := BB9.out; simp; omega) (some 68) rfl ?_
              intro v' w9 hown9 hgr9 hat9
              have F9 := rapp_fin (s := (laidS s (canC s.cube))) HT9.out BW9.out v' w9 hown9 hgr9 hat9
              obtain ⟨⟨o9, n9, c9, rfl⟩, ce9, fz9, bl9, tt9⟩ := F9
              refine ⟨InO.of (bl9 _ _ QG9.out Q9.out).1, ?_⟩
              simp only [Act.put, List.setIfInBounds_toArray, List.set_cons_succ, List.set_cons_zero]
              refine take_nil (i := 8) (some 69) rfl rfl _ rfl _ rfl rfl (by kernel_rfl) (by kernel_rfl) (by kernel_rfl) (InO.of (bl9 _ _ QG9.out Q9.out).1) ?_
              simp only [Act.put, List.setIfInBounds_toArray, List.set_cons_succ, List.set_cons_zero]
              refine region_reads 9 1 1 rfl (by kernel_rfl) (by kernel_rfl) (by kernel_rfl) (by intro d v c a w h; exact absurd h.1 (by simp)) (InO.of (bl9 _ _ QG9.out Q9.out).1) ?_
              simp only [List.drop_succ_cons, List.drop_zero, List.take_succ_cons, List.take_zero]
              go_big_quiet_step (rfl)
              refine wpQuiet_nil ?_
              refine wpAnyH_all (rs := [10]) (by kernel_rfl) (by decide) ?_
              intro i hi
              obtain rfl := List.mem_singleton.1 hi
              refine wpOp_skip0 rfl rfl (store_sl rfl _ _ ⟨r, 0, none⟩ _ _ _ _ rfl rfl ce9 fz9) rfl ?_
              refine ⟨InO.of (bl9 _ _ QG9.out Q9.out).2, ?_⟩
              refine wpAnyH_done (by kernel_rfl) ?_ _
              exact ⟨rfl, _, _, _, _, _, _, _, _, _, _, _, w9, rfl, rfl, tt9, fun j ob h1 h2 => (bl9 j ob h1 h2).2⟩
          · rintro a' w' ⟨y61, y62, y63, y64, y65, y66, y67, y68, y69, y70, v', w9, rfl, rfl, tt9, bl9⟩
            have T9 : Hid _ := tt9
            have L9 : Hid _ := bl9
            clear tt9 bl9
            simp only [Act.put, List.setIfInBounds_toArray, List.set_cons_succ, List.set_cons_zero]
            go_wp2_with fail
            go_ret
            rw [ER.out]
            exact ⟨rfl, _, T9.out, lay_bks (.inl rfl) HBK.out, bank_snoc HIB.out (.inr (.inl HBK.out))⟩
  · by_cases hb3 : s.bank = 3
    · have EL : Hid (layB R (bks L) s = (putB (bks L) 3 (layT R.part (bkOf L 3) s (canC s.cube)).1, (layT R.part (bkOf L 3) s (canC s.cube)).2)) := layB_at (b := 3) (.inr rfl) hb3
      have HBK : Hid (s.bank = 3) := hb3
      rw [hb3] at c0
      have SL1 := SL.out 3 _ B0.out
      clear SL hb2 hb3
      go_enter Try.func30, Try.ntmps30
      go_wp2_with (go_at_call 38; refine SL1.mono ?_; rintro q w1 ⟨⟨u, rfl, hu⟩, hb1⟩; refine of_stopS ?_)
      unfold StopS
      have B1 : Hid (Below w.heap.size w w1) := below_step B0.out B0.out.size hb1
      have Q1 : Hid (w1.heap[w.heap.size]? = some (.cells (slotV s) 38 (0, 0))) := (hb1.block _ (Array.getElem?_eq_some_iff.1 Q0.out).1).trans Q0.out
      obtain ⟨o, cap, rfl, hc1, hc2⟩ := hu.slice
      have hl := hu.sl
      obtain ⟨D, hD⟩ : ∃ D, D = bkOf L 3 := ⟨_, rfl⟩
      rw [← hD] at hl hc1 EL
      obtain ⟨n, hn0⟩ : ∃ n, n = D.length := ⟨_, rfl⟩
      have HN : Hid (n = D.length) := hn0
      have HDL : Hid (D = bkOf L 3) := hD
      rw [← hD, ← hn0]
      rw [← hn0] at hl hc1
      have HD : Hid (GSl SlotE slotV w1 (.slice o n cap) D) := hl
      unfold maxLen at hc2
      clear hl hu hb1 SL1 hD hn0 Q0 B0 c0
      go_wp2_with fail
      go_loopw [6] (fun i wr => ∃ k : Nat, k ≤ n ∧ i = .int .i64 (k : Int) ∧ Hid (∀ j y, j < k → D[j]? = some y → atS s y = false) ∧ Hid (wr.heap[w.heap.size]? = some (.cells (slotV s) 38 (0, 0))) ∧ Hid (Below w1.heap.size w1 wr)) (fun i _ => n - (intOf i).toNat)
      case atStart => exact ⟨0, Nat.zero_le _, rfl, fun j y hj => by omega, Q1, Below.refl _ _⟩
      case round =>
        obtain ⟨k, hk, rfl, HP, HQ, HB⟩ := hrel
        have BW : Hid (Below w.heap.size w wr) := below_step B1.out B1.out.size HB.out
        by_cases hlt : k < n
        · have hlt' : (k : Int) < (n : Int) := by omega
          obtain ⟨g', off, cur, ty, fr, y, rfl, hg, hcc, hyk⟩ := (GSl.below HD.out HB.out).at k hlt
          have HY : Hid (D[k]? = some y) := hyk
          have e1 : ∀ u : Later wr, u.world.cell? ⟨g', off + k * 36 + 1, none⟩ = some (.int .i64 y.epoch) := fun u => ((slf_of hg hcc).below ((later_block hg _ ⟨u, rfl⟩).trans hg.symm)).c1
          have e2 : ∀ u : Later wr, u.world.cell? ⟨g', off + k * 36 + 2, none⟩ = some (.int .i64 y.place) := fun u => ((slf_of hg hcc).below ((later_block hg _ ⟨u, rfl⟩).trans hg.symm)).c2
          have s1 : ∀ u : Later wr, u.world.cell? ⟨w.heap.size, 1, none⟩ = some (.int .i64 s.epoch) := fun u => by have := (later_slf HQ.out (slf_own HQ.out) u).c1; simpa using this
          have s2 : ∀ u : Later wr, u.world.cell? ⟨w.heap.size, 2, none⟩ = some (.int .i64 s.place) := fun u => by have := (later_slf HQ.out (slf_own HQ.out) u).c2; simpa using this
          have ne1 := Later.ne wr
          have HM : Hid (atS s y = ((y.epoch == s.epoch) && (y.place == s.place))) := rfl
          obtain ⟨ye, hye⟩ : ∃ ye, ye = y.epoch := ⟨_, rfl⟩
          obtain ⟨yp, hyp⟩ : ∃ yp, yp = y.place := ⟨_, rfl⟩
          obtain ⟨se, hse⟩ : ∃ se, se = s.epoch := ⟨_, rfl⟩
          obtain ⟨sp, hsp⟩ : ∃ sp, sp = s.place := ⟨_, rfl⟩
          rw [← hye] at e1 HM
          rw [← hyp] at e2 HM
          rw [← hse] at s1 HM
          rw [← hsp] at s2 HM
          clear hg hcc hyk hye hyp hse hsp
          by_cases q1 : ye = se
          · subst q1
            have qd : (ye == ye) = true := by simp
            by_cases q2 : yp = sp
            · subst q2
              have qp : (yp == yp) = true := by simp
              have HMM : Hid (atS s y = true) := by show _ = _; rw [HM.out, qd, qp]; rfl
              go_wp2_with fail
              refine wp_region_later (by kernel_rfl) (by kernel_rfl) ?_
              go_big_quiet_step (rfl)
              go_big_quiet_step (rfl)
              go_big_quiet_step (rfl)
              go_big_quiet_step (rfl)
              go_big_quiet_step (rfl)
              go_big_quiet_step (rfl)
              go_big_quiet_step (rfl)
              go_big_quiet_step (rfl)
              go_big_quiet_step (rfl)
              go_big_quiet_step (rfl)
              go_big_quiet_step (rfl)
              go_big_quiet_step (rfl)
              go_big_quiet_step (rfl)
              go_big_quiet_step (rfl)
              go_big_quiet_step (rfl)
              go_big_quiet_step (rfl)
              go_big_quiet_step (rfl)
              go_big_quiet_step (rfl)
              refine wpQuiet_nil ?_
              rintro w' ⟨u, rfl⟩
              go_wp2_with fail
              go_ret
              have EA : D.any (atS s) = true := any_yes HY.out HMM.out
              have EX : layB R (bks L) s = (bks L, 9) := by rw [EL.out]; unfold layT; rw [if_pos EA, HDL.out]; exact Prod.ext (putB_same (S := bks L) (.inr rfl)) rfl
              rw [EX]
              exact ⟨rfl, L, HT9.out.same (below_step BW.out BW.out.size u.below), rfl, HIB.out⟩
            · have qp : (yp == sp) = false := by simpa using q2
              have HMM : Hid (atS s y = false) := by show _ = _; rw [HM.out, qd, qp]; rfl
              go_wp2_with fail
              refine wp_region_later (by kernel_rfl) (by kernel_rfl) ?_
              go_big_quiet_step (rfl)
              go_big_quiet_step (rfl)
              go_big_quiet_step (rfl)
              go_big_quiet_step (rfl)
              go_big_quiet_step (rfl)
              go_big_quiet_step (rfl)
              go_big_quiet_step (rfl)
              go_big_quiet_step (rfl)
              go_big_quiet_step (rfl)
              go_big_quiet_step (rfl)
              go_big_quiet_step (rfl)
              go_big_quiet_step (rfl)
              go_big_quiet_step (rfl)
              go_big_quiet_step (rfl)
              go_big_quiet_step (rfl)
              go_big_quiet_step (rfl)
              go_big_quiet_step (rfl)
              go_big_quiet_step (rfl)
              refine wpQuiet_nil ?_
              rintro w' ⟨u, rfl⟩
              go_wp2_with fail
              go_roundw
              case rel =>
                refine ⟨k + 1, by omega, by go_num, fun j z hj hz => ?_, later_block HQ.out _ ⟨u, rfl⟩, below_step HB.out HB.out.size u.below⟩
                by_cases e : j = k
                · subst e; rw [HY.out] at hz; cases hz; exact HMM.out
                · exact HP.out j z (by omega) hz
              case measure => simp [intOf]; omega
          · have qd : (ye == se) = false := by simpa using q1
            have HMM : Hid (atS s y = false) := by show _ = _; rw [HM.out, qd]; rfl
            go_wp2_with fail
            refine wp_region_later (by kernel_rfl) (by kernel_rfl) ?_
            go_big_quiet_step (rfl)
            go_big_quiet_step (rfl)
            go_big_quiet_step (rfl)
            go_big_quiet_step (rfl)
            go_big_quiet_step (rfl)
            go_big_quiet_step (rfl)
            go_big_quiet_step (rfl)
            go_big_quiet_step (rfl)
            go_big_quiet_step (rfl)
            go_big_quiet_step (rfl)
            go_big_quiet_step (rfl)
            go_big_quiet_step (rfl)
            go_big_quiet_step (rfl)
            go_big_quiet_step (rfl)
            go_big_quiet_step (rfl)
            go_big_quiet_step (rfl)
            go_big_quiet_step (rfl)
            go_big_quiet_step (rfl)
            refine wpQuiet_nil ?_
            rintro w' ⟨u, rfl⟩
            go_wp2_with fail
            go_roundw
            case rel =>
              refine ⟨k + 1, by omega, by go_num, fun j z hj hz => ?_, later_block HQ.out _ ⟨u, rfl⟩, below_step HB.out HB.out.size u.below⟩
              by_cases e : j = k
              · subst e; rw [HY.out] at hz; cases hz; exact HMM.out
              · exact HP.out j z (by omega) hz
            case measure => simp [intOf]; omega
        · have hlt' : ¬ (k : Int) < (n : Int) := by omega
          have EA : Hid (D.any (atS s) = false) := any_no fun j y hj hy => HP.out j y (by have := HN.out; omega) hy
          have d1 : ∀ u : Later wr, u.world.cell? ⟨r, 1, none⟩ = some (.slice (some ⟨gr, 0, none⟩) 4 4) := fun u => (HT9.out.below (below_step BW.out BW.out.size u.below)).f.c1
          have d2 : ∀ u : Later wr, u.world.cell? ⟨gr, 3, none⟩ = some (.int .i64 R.part) := fun u => (HT9.out.below (below_step BW.out BW.out.size u.below)).f.r3
          have s0 : ∀ u : Later wr, u.world.cell? ⟨w.heap.size, 0, none⟩ = some (.int .i64 3) := fun u => by have h9 := (later_slf HQ.out (slf_own HQ.out) u).c0; rw [HBK.out] at h9; exact h9
          have ne1 := Later.ne wr
          obtain ⟨rm, hrm⟩ : ∃ rm, rm = R.part := ⟨_, rfl⟩
          rw [← hrm] at d2 EL
          clear hrm HP
          by_cases hf : n = rm
          · have hfd : ((n : Int) == (rm : Int)) = true := by rw [hf]; simp
            have ER : Hid (layB R (bks L) s = (bks L, 13)) := by show _ = _; rw [EL.out]; unfold layT; rw [if_neg (by rw [EA.out]; simp), if_pos (by rw [← HN.out]; exact hf), HDL.out]; exact Prod.ext (putB_same (S := bks L) (.inr rfl)) rfl
            clear hf
            go_wp2_with fail
            refine wp_region_later (by kernel_rfl) (by kernel_rfl) ?_
            go_big_quiet_step (rfl)
            go_big_quiet_step (rfl)
            go_big_quiet_step (rfl)
            refine q_nilT rfl _ rfl _ rfl ?_
            simp only [Act.put, List.setIfInBounds_toArray, List.set_cons_succ, List.set_cons_zero]
            go_big_quiet_step (rfl)
            go_big_quiet_step (rfl)
            go_big_quiet_step (rfl)
            go_big_quiet_step (rfl)
            go_big_quiet_step (rfl)
            go_big_quiet_step (rfl)
            go_big_quiet_step (rfl)
            refine wpQuiet_nil ?_
            rintro w' ⟨u, rfl⟩
            go_wp2_with fail
            go_ret
            rw [ER.out]
            exact ⟨rfl, L, HT9.out.same (below_step BW.out BW.out.size u.below), rfl, HIB.out⟩
          · have hfd : ((n : Int) == (rm : Int)) = false := by simp; omega
            have ER : Hid (layB R (bks L) s = (putB (bks L) 3 (bankL (bks L) 3 ++ [laidS s (canC s.cube)]), 0)) := by show _ = _; rw [EL.out]; unfold layT; rw [if_neg (by rw [EA.out]; simp), if_neg (by rw [← HN.out]; exact hf), HDL.out]; rfl
            go_wp2_with fail
            refine wp_region_later (by kernel_rfl) (by kernel_rfl) ?_
            go_big_quiet_step (rfl)
            go_big_quiet_step (rfl)
            go_big_quiet_step (rfl)
            refine q_nilT rfl _ rfl _ rfl ?_
            simp only [Act.put, List.setIfInBounds_toArray, List.set_cons_succ, List.set_cons_zero]
            go_big_quiet_step (rfl)
            go_big_quiet_step (rfl)
            go_big_quiet_step (rfl)
            go_big_quiet_step (rfl)
            go_big_quiet_step (rfl)
            go_big_quiet_step (rfl)
            go_big_quiet_step (rfl)
            refine wpQuiet_nil ?_
            rintro w' ⟨u, rfl⟩
            have B2 : Hid (Below w.heap.size w u.world) := below_step BW.out BW.out.size u.below
            have Q2 : Hid (u.world.heap[w.heap.size]? = some (.cells (slotV s) 38 (0, 0))) := later_block HQ.out _ ⟨u, rfl⟩
            obtain ⟨w2, hw2⟩ : ∃ w2, u.world = w2 := ⟨_, rfl⟩
            rw [hw2] at B2 Q2
            rw [hw2]
            clear hw2 d1 d2 s0 ne1 EL EA HQ HB BW hf hfd hlt hlt'
            go_wp2_with (first | ((with_reducible refine wl_gC _ rfl ?_); refine wl_loadCw rfl _ rfl w.heap.size 4 rfl _ _ _ (pad s.cube.1) (pad s.cube.2) (pad_len _) (pad_len _) Q2.out (slotV_cube s) ?_) | (go_at_call 23; refine (CA.out _).mono ?_; rintro e w3 ⟨rfl, hb3⟩; have B3 : Hid (Below w.heap.size w w3) := below_step B2.out B2.out.size hb3; have Q3 : Hid (w3.heap[w.heap.size]? = some (.cells (slotV s) 38 (0, 0))) := (hb3.block _ (Array.getElem?_eq_some_iff.1 Q2.out).1).trans Q2.out; clear hb3; refine of_stopS ?_))
            unfold StopS
            obtain ⟨w4, hw4⟩ : ∃ w4, World.setRow w3 w.heap.size (slotV { s with cube := canC s.cube }) = w4 := ⟨_, rfl⟩
            have HW4 : Hid (_ = w4) := hw4
            have Q4 : Hid (w4.heap[w.heap.size]? = some (.cells (slotV { s with cube := canC s.cube }) 38 (0, 0))) := by show _ = _; rw [← hw4]; exact setRow_heap _ _ _ _ _ _ Q3.out
            have K4 : Hid (Kept (isB w.heap.size) w3 w4) := by show Kept _ _ _; rw [← hw4]; exact kept_setRow _ _ _
            clear hw4
            obtain ⟨l1, l2, l3, l4, l5, l6, l7, l8⟩ := laid_worlds (W := w4) Q4.out
            have L7 : Hid _ := l7
            have L8 : Hid _ := l8
            clear l7 l8
            go_wp2_with (first | ((with_reducible refine wl_gSC _ _ rfl ?_); refine wl_storeCub rfl _ _ rfl w.heap.size s (canC s.cube) rfl rfl Q3.out w4 HW4.out ?_))
            obtain ⟨w5, hw5⟩ : ∃ w5, w5 = World.setCell (World.setCell (World.setCell w4 ⟨w.heap.size, 33, none⟩ (.int .i64 0)) ⟨w.heap.size, 34, none⟩ (.int .i64 0)) ⟨w.heap.size, 35, none⟩ (.int .i64 0) := ⟨_, rfl⟩
            have Q9 : Hid (w5.heap[w.heap.size]? = some (.cells (slotV (laidS s (canC s.cube))) 38 (0, 0))) := by show _ = _; rw [hw5]; exact L7.out
            have BW9 : Hid (Below w.heap.size w w5) := by show Below _ _ _; rw [hw5]; exact below_kept ((Kept.of_below (X := isB w.heap.size) B3.out).trans (K4.out.trans L8.out fun k hk => .inl hk) fun k hk => .inl hk) fun k hk => by unfold isB at hk; omega
            rw [← hw5]
            clear hw5 l1 l2 l3 l4 l5 l6 L7 L8 K4 Q4 HW4
            have TT9 : Hid (RTabV B w5 r gr R L vl) := HT9.out.below BW9.out
            refine region_cut (fun a a' w' => ∃ y61 y62 y63 y64 y65 y66 y67 y68 y69 y70 v' w9, a' = ((((((((((a.put (some 61) y61).put (some 62) y62).put (some 63) y63).put (some 64) y64).put (some 65) y65).put (some 66) y66).put (some 67) y67).put (some 68) y68).put (some 69) y69).put (some 70) y70) ∧ w' = World.setCell w9 ⟨r, 0, none⟩ v' ∧ RTabTo B w (World.setCell w9 ⟨r, 0, none⟩ v') r gr R (L ++ [(laidS s (canC s.cube))]) vl ∧ (∀ j ob, ¬ footR r gr vl j → (World.heap w5)[j]? = some ob → (World.setCell w9 ⟨r, 0, none⟩ v').heap[j]? = some ob)) ?_ ?_
            · have ne9 : Nonempty (KeepO w.heap.size (.cells (slotV (laidS s (canC s.cube))) 38 (0, 0))) := ⟨⟨w5, Q9.out⟩⟩
              refine region_beginS (InO w.heap.size (.cells (slotV (laidS s (canC s.cube))) 38 (0, 0))) 11 rfl (by kernel_rfl) ?_
              refine region_reads 0 2 9 rfl (by kernel_rfl) (by kernel_rfl) (by kernel_rfl) (by intro d v c a w h; exact absurd h.1 (by simp)) (InO.of (w := World.drew w5) Q9.out) ?_
              simp only [List.drop_zero, List.take_succ_cons, List.take_zero]
              go_big_quiet_step (rfl)
              go_big_quiet_step (rfl)
              refine wpQuiet_nil ?_
              refine take_nil (i := 2) (some 63) rfl rfl _ rfl _ rfl rfl (by kernel_rfl) (by kernel_rfl) (by kernel_rfl) (InO.of (w := World.drew w5) Q9.out) ?_
              simp only [Act.put, List.setIfInBounds_toArray, List.set_cons_succ, List.set_cons_zero]
              refine region_reads 3 1 7 rfl (by kernel_rfl) (by kernel_rfl) (by kernel_rfl) (by intro d v c a w h; exact absurd h.1 (by simp)) (InO.of (w := World.drew w5) Q9.out) ?_
              simp only [List.drop_succ_cons, List.drop_zero, List.take_succ_cons, List.take_zero]
              go_big_quiet_step (rfl)
              refine wpQuiet_nil ?_
              refine region_reads 5 1 6 rfl (by kernel_rfl) (by kernel_rfl) (by kernel_rfl) (by intro d v c a w h; exact absurd h.1 (by simp)) (InO.of (w := World.drew w5) Q9.out) ?_
              simp only [List.drop_succ_cons, List.drop_zero, List.take_succ_cons, List.take_zero]
              refine qlE (E := SlotE) SlotOk rfl _ rfl w.heap.size 0 rfl _ _ _ (slotV (laidS s (canC s.cube))) (slotV_size _) (by rintro w' ⟨z, rfl⟩; exact z.k1) (own_cells _ _) ?_
              simp only [Act.put, List.setIfInBounds_toArray, List.set_cons_succ, List.set_cons_zero]
              refine wpQuiet_nil ?_
              refine wpAnyH_all (rs := [4, 6]) (by kernel_rfl) (by decide) ?_
              intro i hi
              simp only [List.mem_cons, List.not_mem_nil, or_false] at hi
              rcases hi with rfl | rfl
              · skip
                refine wpOp_val rfl rfl vl (load_sl rfl _ _ ⟨r, 0, none⟩ vl rfl ((RTabV.below TT9.out (by first | exact (Below.refl _ _).drew | exact (Below.refl _ _).drew.alloc (Nat.le_refl _) _)).f.c0)) (some 65) rfl ?_
                refine ⟨InO.of (w := World.drew w5) Q9.out, ?_⟩
                simp only [Act.put, List.setIfInBounds_toArray, List.set_cons_succ, List.set_cons_zero]
                refine wpAnyH_all (rs := [6]) (by kernel_rfl) (by decide) ?_
                intro i hi
                obtain rfl := List.mem_singleton.1 hi
                refine wpOp_build1S rfl rfl _ rfl (laidS s (canC s.cube)) rfl (some 67) rfl ?_
                refine ⟨InO.of (heap_past _ _ _ _ Q9.out), ?_⟩
                simp only [Act.put, List.setIfInBounds_toArray, List.set_cons_succ, List.set_cons_zero]
                refine wpAnyH_all (rs := [7]) (by kernel_rfl) (by decide) ?_
                intro i hi
                obtain rfl := List.mem_singleton.1 hi
                refine wpOp_appendS rfl rfl _ _ rfl B vl L (laidS s (canC s.cube)) rfl ((TT9.out.below ((Below.refl _ _).drew.alloc (Nat.le_refl _) _)).own) _ 1 rfl (heap_new _ _ _ rfl) LEN9.out (by have h9 := BW9.out.size; have h8 := BB9.out; simp; omega) (some 68) rfl ?_
                intro v' w9 hown9 hgr9 hat9
                have F9 := rapp_fin (s := (laidS s (canC s.cube))) HT9.out BW9.out v' w9 hown9 hgr9 hat9
                obtain ⟨⟨o9, n9, c9, rfl⟩, ce9, fz9, bl9, tt9⟩ := F9
                refine ⟨InO.of (bl9 _ _ QG9.out Q9.out).1, ?_⟩
                simp only [Act.put, List.setIfInBounds_toArray, List.set_cons_succ, List.set_cons_zero]
                refine take_nil (i := 8) (some 69) rfl rfl _ rfl _ rfl rfl (by kernel_rfl) (by kernel_rfl) (by kernel_rfl) (InO.of (bl9 _ _ QG9.out Q9.out).1) ?_
                simp only [Act.put, List.setIfInBounds_toArray, List.set_cons_succ, List.set_cons_zero]
                refine region_reads 9 1 1 rfl (by kernel_rfl) (by kernel_rfl) (by kernel_rfl) (by intro d v c a w h; exact absurd h.1 (by simp)) (InO.of (bl9 _ _ QG9.out Q9.out).1) ?_
                simp only [List.drop_succ_cons, List.drop_zero, List.take_succ_cons, List.take_zero]
                go_big_quiet_step (rfl)
                refine wpQuiet_nil ?_
                refine wpAnyH_all (rs := [10]) (by kernel_rfl) (by decide) ?_
                intro i hi
                obtain rfl := List.mem_singleton.1 hi
                refine wpOp_skip0 rfl rfl (store_sl rfl _ _ ⟨r, 0, none⟩ _ _ _ _ rfl rfl ce9 fz9) rfl ?_
                refine ⟨InO.of (bl9 _ _ QG9.out Q9.out).2, ?_⟩
                refine wpAnyH_done (by kernel_rfl) ?_ _
                exact ⟨rfl, _, _, _, _, _, _, _, _, _, _, _, w9, rfl, rfl, tt9, fun j ob h1 h2 => (bl9 j ob h1 h2).2⟩
              · skip
                refine wpOp_build1S rfl rfl _ rfl (laidS s (canC s.cube)) rfl (some 67) rfl ?_
                refine ⟨InO.of (heap_past _ _ _ _ Q9.out), ?_⟩
                simp only [Act.put, List.setIfInBounds_toArray, List.set_cons_succ, List.set_cons_zero]
                refine wpAnyH_all (rs := [4]) (by kernel_rfl) (by decide) ?_
                intro i hi
                obtain rfl := List.mem_singleton.1 hi
                refine wpOp_val rfl rfl vl (load_sl rfl _ _ ⟨r, 0, none⟩ vl rfl ((RTabV.below TT9.out (by first | exact (Below.refl _ _).drew | exact (Below.refl _ _).drew.alloc (Nat.le_refl _) _)).f.c0)) (some 65) rfl ?_
                refine ⟨InO.of (heap_past _ _ _ _ Q9.out), ?_⟩
                simp only [Act.put, List.setIfInBounds_toArray, List.set_cons_succ, List.set_cons_zero]
                refine wpAnyH_all (rs := [7]) (by kernel_rfl) (by decide) ?_
                intro i hi
                obtain rfl := List.mem_singleton.1 hi
                refine wpOp_appendS rfl rfl _ _ rfl B vl L (laidS s (canC s.cube)) rfl ((TT9.out.below ((Below.refl _ _).drew.alloc (Nat.le_refl _) _)).own) _ 1 rfl (heap_new _ _ _ rfl) LEN9.out (by have h9 := BW9.out.size; have h8 := BB9.out; simp; omega) (some 68) rfl ?_
                intro v' w9 hown9 hgr9 hat9
                have F9 := rapp_fin (s := (laidS s (canC s.cube))) HT9.out BW9.out v' w9 hown9 hgr9 hat9
                obtain ⟨⟨o9, n9, c9, rfl⟩, ce9, fz9, bl9, tt9⟩ := F9
                refine ⟨InO.of (bl9 _ _ QG9.out Q9.out).1, ?_⟩
                simp only [Act.put, List.setIfInBounds_toArray, List.set_cons_succ, List.set_cons_zero]
                refine take_nil (i := 8) (some 69) rfl rfl _ rfl _ rfl rfl (by kernel_rfl) (by kernel_rfl) (by kernel_rfl) (InO.of (bl9 _ _ QG9.out Q9.out).1) ?_
                simp only [Act.put, List.setIfInBounds_toArray, List.set_cons_succ, List.set_cons_zero]
                refine region_reads 9 1 1 rfl (by kernel_rfl) (by kernel_rfl) (by kernel_rfl) (by intro d v c a w h; exact absurd h.1 (by simp)) (InO.of (bl9 _ _ QG9.out Q9.out).1) ?_
                simp only [List.drop_succ_cons, List.drop_zero, List.take_succ_cons, List.take_zero]
                go_big_quiet_step (rfl)
                refine wpQuiet_nil ?_
                refine wpAnyH_all (rs := [10]) (by kernel_rfl) (by decide) ?_
                intro i hi
                obtain rfl := List.mem_singleton.1 hi
                refine wpOp_skip0 rfl rfl (store_sl rfl _ _ ⟨r, 0, none⟩ _ _ _ _ rfl rfl ce9 fz9) rfl ?_
                refine ⟨InO.of (bl9 _ _ QG9.out Q9.out).2, ?_⟩
                refine wpAnyH_done (by kernel_rfl) ?_ _
                exact ⟨rfl, _, _, _, _, _, _, _, _, _, _, _, w9, rfl, rfl, tt9, fun j ob h1 h2 => (bl9 j ob h1 h2).2⟩
            · rintro a' w' ⟨y61, y62, y63, y64, y65, y66, y67, y68, y69, y70, v', w9, rfl, rfl, tt9, bl9⟩
              have T9 : Hid _ := tt9
              have L9 : Hid _ := bl9
              clear tt9 bl9
              simp only [Act.put, List.setIfInBounds_toArray, List.set_cons_succ, List.set_cons_zero]
              go_wp2_with fail
              go_ret
              rw [ER.out]
              exact ⟨rfl, _, T9.out, lay_bks (.inr rfl) HBK.out, bank_snoc HIB.out (.inr (.inr HBK.out))⟩
    · have ER : Hid (layB R (bks L) s = (bks L, 1)) := layB_no hb2 hb3
      have d2 : (s.bank != 2) = true := by simpa using hb2
      have d3 : (s.bank != 3) = true := by simpa using hb3
      go_enter Try.func30, Try.ntmps30
      go_wp2_with fail
      go_ret
      rw [ER.out]
      exact ⟨rfl, L, HT9.out.same B0.out, rfl, HIB.out⟩
end Go.Proofs.Ytojhckjdkafpmaa
