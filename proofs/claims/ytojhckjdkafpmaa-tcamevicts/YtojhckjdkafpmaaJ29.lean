import Derived.Test.YtojhckjdkafpmaaJ28
namespace Go.Proofs.Ytojhckjdkafpmaa
open Go Go.RowKit
set_option maxRecDepth 20000

theorem begin_run {w w1 w2 w3 : World} {c a q i h : Int} {g r gr : Nat} (hr : OkR c a q i h) (hb1 : Below w.heap.size w w1) (hT : TwoT w1.heap.size w2 g r gr (rmOf c a q i h) ⟨[], [], []⟩ [] (.slice none 0 0) (.slice none 0 0) (.slice none 0 0) (.slice none 0 0)) (hb2 : Below w1.heap.size w1 w2) (h3 : w3 = w2.alloc (.cells (twoV g r) 29)) :
    Run w w1.heap.size 0 w3 w2.heap.size g r gr (rmOf c a q i h) ⟨[], [], []⟩ [] (.slice none 0 0) (.slice none 0 0) (.slice none 0 0) (.slice none 0 0) := by
  have hb3 : Below w2.heap.size w2 w3 := by rw [h3]; exact (Below.refl _ _).alloc (Nat.le_refl _) _
  refine ⟨⟨hT.below hb3, rfl, fun x hx => by simp at hx, invx_nil _, ?_⟩, by rw [h3]; exact heap_new _ _ _ rfl, fun e => ?_, below_step (below_step hb1 hb1.size hb2) (Nat.le_trans hb1.size hb2.size) hb3, hb1.size⟩
  · unfold OkR at hr
    unfold rmOf
    simp only
    omega
  · rcases e with e | e
    · have := (hT.t.foot_in _ e).2; omega
    · have := (hT.rt.foot_in _ e).2; omega
theorem ActSl.at {w : World} {v : Value} {A : List ActM} (h : GSl ActE actV w v A) : ∃ o cap, v = .slice o A.length cap ∧ A.length ≤ cap ∧ cap ≤ maxLen := h.slice
theorem act_ld {w : World} {o : Option Addr} {n cap : Nat} {A : List ActM} (h : GSl ActE actV w (.slice o n cap) A) (hA : ∀ x ∈ A, OkA x) (k : Nat) (hk : k < n) : ∃ g off x, o = some ⟨g, off, none⟩ ∧ A[k]? = some x ∧ OkA x ∧ ∀ W, Below w.heap.size w W → (loadVar 40 ⟨g, off + k * 51, none⟩).run Try.prog W = .ok (.agg (actV x)) W := by
  obtain ⟨g, off, cur, ty, fr, x, rfl, hg, hcc, hx⟩ := h.at k hk
  have hx' := hA x (List.mem_of_getElem? hx)
  refine ⟨g, off, x, rfl, hx, hx', fun W hb => ?_⟩
  exact ActOk.load W g (off + k * 51) cur ty fr (actV x) (actV_size hx'.2.1) ((hb.block g (Array.getElem?_eq_some_iff.1 hg).1).trans hg) hcc
set_option maxHeartbeats 16000000 in
theorem lawPlays (c a q i h : Int) (A : List ActM) (lv : Value) (w : World) (hl : GSl ActE actV w lv A) (hA : ∀ x ∈ A, OkA x) :
    Calls Try.prog 3 #[.agg (roomA c a q i h), lv] w fun e w' => e = .returned (.bool true) ∧ Below w.heap.size w w' := by
  have AW : Hid (∀ W, Calls Try.prog 9 #[] W fun r w' => r = .returned (.bool true) ∧ Below W.heap.size W w') := awakeT_any
  obtain ⟨o, cap, rfl, hc1, hc2⟩ := hl.slice
  obtain ⟨n, hn0⟩ : ∃ n, n = A.length := ⟨_, rfl⟩
  have HN : Hid (n = A.length) := hn0
  rw [← hn0] at hl hc1
  rw [← hn0]
  have HL : Hid (GSl ActE actV w (.slice o n cap) A) := hl
  have HA : Hid (∀ x ∈ A, OkA x) := hA
  unfold maxLen at hc2
  clear hl hA hn0
  have R0 : Hid ((w.alloc (.cells (roomA c a q i h) 23)).heap[w.heap.size]? = some (.cells (roomA c a q i h) 23 (0, 0))) := heap_new _ _ _ rfl
  have B0 : Hid (Below w.heap.size w (w.alloc (.cells (roomA c a q i h) 23))) := (Below.refl _ _).alloc (Nat.le_refl _) _
  have haw := AW.out (w.alloc (.cells (roomA c a q i h) 23))
  go_enter Try.func3, Try.ntmps3
  go_wp2_with (go_at_call 9; refine haw.mono ?_; rintro e w1 ⟨rfl, hb1⟩; refine of_stopS ?_)
  unfold StopS
  have B1 : Hid (Below w.heap.size w w1) := below_step B0.out B0.out.size hb1
  have R1 : Hid (w1.heap[w.heap.size]? = some (.cells (roomA c a q i h) 23 (0, 0))) := (hb1.block _ (Array.getElem?_eq_some_iff.1 R0.out).1).trans R0.out
  clear hb1 haw R0 B0 AW
  by_cases hr : OkR c a q i h
  · have hop := open_yes c a q i h hr w1
    have HR : Hid (OkR c a q i h) := hr
    clear hr
    go_wp2_with (first | ((with_reducible refine wl_gT 23 _ rfl ?_); refine wl_ldT rfl 23 _ rfl ⟨w.heap.size, 0, none⟩ rfl (.agg (roomA c a q i h)) (room_load R1.out) ?_) | (go_at_call 10; refine hop.mono ?_; rintro e w2 ⟨g, r, gr, rfl, hT2, hb2⟩; refine of_stopS ?_))
    unfold StopS
    obtain ⟨p, hp⟩ : ∃ p, p = w2.heap.size := ⟨_, rfl⟩
    obtain ⟨B, hBB⟩ : ∃ B, B = w1.heap.size := ⟨_, rfl⟩
    obtain ⟨R, hRR⟩ : ∃ R, R = rmOf c a q i h := ⟨_, rfl⟩
    obtain ⟨w3, hw3⟩ : ∃ w3, w3 = w2.alloc (.cells #[.pointer (some ⟨g, 0, none⟩), .pointer (some ⟨r, 0, none⟩)] 29) := ⟨_, rfl⟩
    have RR : Hid (Run w B 0 w3 p g r gr R ⟨[], [], []⟩ [] (.slice none 0 0) (.slice none 0 0) (.slice none 0 0) (.slice none 0 0)) := by rw [hp, hBB, hRR]; exact begin_run HR.out B1.out hT2 hb2 hw3
    have HRR : Hid (R = rmOf c a q i h) := hRR
    have T3 : Hid (w3.heap[w2.heap.size]? = some (.cells #[.pointer (some ⟨g, 0, none⟩), .pointer (some ⟨r, 0, none⟩)] 29 (0, 0))) := by rw [← hp]; exact RR.out.blk
    have t3 : w3.cell? ⟨w2.heap.size, 1, none⟩ = some (.pointer (some ⟨r, 0, none⟩)) := by rw [cell_of_row _ _ _ _ _ _ T3.out]; rfl
    have t0 : w3.cell? ⟨w2.heap.size, 0, none⟩ = some (.pointer (some ⟨g, 0, none⟩)) := by rw [cell_of_row _ _ _ _ _ _ T3.out]; rfl
    rw [hw3] at t3 t0
    clear hT2 hb2 hop R1 hRR hBB
    go_wp2_with fail
    rw [← hw3, ← hp]
    clear hw3 hp t3 t0 T3
    go_loopw [7] (fun s7 wr => ∃ (k : Nat), k ≤ n ∧ k ≤ 60 ∧ s7 = .int .i64 (k : Int) ∧ Hid (RunE w B k wr p g r gr R (playS R ⟨[], [], []⟩ (A.take k)))) (fun s7 _ => 60 - (intOf s7).toNat)
    case atStart => exact ⟨0, Nat.zero_le _, Nat.zero_le _, rfl, _, _, _, _, _, RR.out⟩
    case round =>
      clear RR
      obtain ⟨k, hk, hk60, rfl, HRE⟩ := hrel
      by_cases hlt : k < n
      · have hlt' : (k : Int) < (n : Int) := by omega
        by_cases hl6 : k < 60
        · have hl6' : (k : Int) < 60 := by omega
          obtain ⟨g', off, x, rfl, hx, hox, hld⟩ := act_ld HL.out HA.out k hlt
          have LX : Hid _ := hld
          have OX : Hid (OkA x) := hox
          have HX : Hid (A[k]? = some x) := hx
          obtain ⟨S, hS⟩ : ∃ S, S = playS R ⟨[], [], []⟩ (A.take k) := ⟨_, rfl⟩
          have HS : Hid (playS R ⟨[], [], []⟩ (A.take (k + 1)) = stepT canC hsC R S x) := by show _ = _; rw [List.take_add_one, hx, hS]; exact playS_snoc _ _ _ _
          rw [← hS] at HRE
          obtain ⟨L, v1, v2, v3, vl, hRN⟩ := HRE.out
          have HRN : Hid (Run w B k wr p g r gr R S L v1 v2 v3 vl) := hRN
          have RD := hRN.stay (w1 := World.drew wr) (Below.refl _ _).drew
          clear hld hox hx hS HRE hRN
          go_wp2_with fail
          refine region_cut (fun a a' w' => ∃ y33 y34 y35 y36 y37 y38 y39 y40 y41 y42 y43, a' = (((((((((((a.put (some 33) y33).put (some 34) y34).put (some 35) y35).put (some 36) y36).put (some 37) y37).put (some 38) y38).put (some 39) y39).put (some 40) y40).put (some 41) y41).put (some 42) y42).put (some 43) y43).put (some 44) (.bool false) ∧ RunE w B (k + 1) w' p g r gr R (stepT canC hsC R S x)) ?_ ?_
          · have ne9 : Nonempty (KeepL w p (.cells (twoV g r) 29 (0, 0))) := ⟨⟨wr, HRN.out.below, HRN.out.blk⟩⟩
            refine region_beginS (InL w p (.cells (twoV g r) 29 (0, 0))) 12 rfl (by kernel_rfl) ?_
            refine region_reads 0 5 7 rfl (by kernel_rfl) (by kernel_rfl) (by kernel_rfl) (by intro d v c a w h; exact absurd h.1 (by simp)) (InL.of RD.below RD.blk) ?_
            simp only [List.drop_zero, List.take_succ_cons, List.take_zero]
            refine q_ldT rfl 29 _ rfl ⟨p, 0, none⟩ rfl (.agg (twoV g r)) (by rintro w' ⟨z, rfl⟩; exact two_load z.k1) ?_
            simp only [Act.put, List.setIfInBounds_toArray, List.set_cons_succ, List.set_cons_zero]
            go_big_quiet_step (rfl)
            go_big_quiet_step (rfl)
            go_big_quiet_step (rfl)
            refine q_ldT rfl 40 _ rfl ⟨g', off + k * 51, none⟩ rfl (.agg (actV x)) (by rintro w' ⟨z, rfl⟩; exact LX.out _ z.below) ?_
            simp only [Act.put, List.setIfInBounds_toArray, List.set_cons_succ, List.set_cons_zero]
            refine wpQuiet_nil ?_
            refine wpAnyH_all (rs := [5]) (by kernel_rfl) (by decide) ?_
            intro i hi
            obtain rfl := List.mem_singleton.1 hi
            refine wpOp_call rfl rfl 11 #[.tmp 33, .tmp 37] (by intro b w; have hf := Try.func11; simp [go_sem]) #[.agg (twoV g r), .agg (actV x)] rfl (fun v w' => v = .bool true ∧ PlTo B (k + 1) (World.drew wr) w' g r gr R (stepT canC hsC R S x) v1 v2 v3 vl) ((does_any B k _ g r gr R S L v1 v2 v3 vl RD.pl (by omega) x OX.out).mono fun e w' h => ⟨_, h.1, rfl, h.2⟩) (some 38) rfl ?_
            rintro v x1 ⟨rfl, h1⟩
            obtain ⟨L1, u1, u2, u3, ul, hR1⟩ := RD.to h1
            refine ⟨InL.of hR1.below hR1.blk, ?_⟩
            simp only [Act.put, List.setIfInBounds_toArray, List.set_cons_succ, List.set_cons_zero]
            refine wpAnyH_all (rs := [6]) (by kernel_rfl) (by decide) ?_
            intro i hi
            obtain rfl := List.mem_singleton.1 hi
            refine wpOp_val (w' := x1) rfl rfl (.bool false) (by simp [go_sem]) (some 39) rfl ?_
            refine ⟨InL.of hR1.below hR1.blk, ?_⟩
            simp only [Act.put, List.setIfInBounds_toArray, List.set_cons_succ, List.set_cons_zero]
            refine wpAnyH_all (rs := [7]) (by kernel_rfl) (by decide) ?_
            intro i hi
            obtain rfl := List.mem_singleton.1 hi
            refine wpOp_val (w' := x1) rfl rfl (.bool false) (by simp [go_sem]) (some 40) rfl ?_
            refine ⟨InL.of hR1.below hR1.blk, ?_⟩
            simp only [Act.put, List.setIfInBounds_toArray, List.set_cons_succ, List.set_cons_zero]
            refine wpAnyH_all (rs := [8]) (by kernel_rfl) (by decide) ?_
            intro i hi
            obtain rfl := List.mem_singleton.1 hi
            refine wpOp_val (w' := x1) rfl rfl (.agg (twoV g r)) (run_ldT 29 _ rfl _ _ ⟨p, 0, none⟩ rfl _ (two_load hR1.blk)) (some 41) rfl ?_
            refine ⟨InL.of hR1.below hR1.blk, ?_⟩
            simp only [Act.put, List.setIfInBounds_toArray, List.set_cons_succ, List.set_cons_zero]
            refine wpAnyH_all (rs := [9]) (by kernel_rfl) (by decide) ?_
            intro i hi
            obtain rfl := List.mem_singleton.1 hi
            refine wpOp_call rfl rfl 12 #[.tmp 41] (by intro b w; have hf := Try.func12; simp [go_sem]) #[.agg (twoV g r)] rfl (fun v w' => v = .bool true ∧ Below (World.heap x1).size x1 w') ((alike_any B (k + 1) x1 g r gr R _ L1 u1 u2 u3 ul hR1.pl).mono fun e w' h => ⟨_, h.1, rfl, h.2⟩) (some 42) rfl ?_
            rintro v x2 ⟨rfl, h2⟩
            have hR2 := hR1.stay h2
            refine ⟨InL.of hR2.below hR2.blk, ?_⟩
            simp only [Act.put, List.setIfInBounds_toArray, List.set_cons_succ, List.set_cons_zero]
            refine wpAnyH_all (rs := [10]) (by kernel_rfl) (by decide) ?_
            intro i hi
            obtain rfl := List.mem_singleton.1 hi
            refine wpOp_val (w' := x2) rfl rfl (.bool false) (by simp [go_sem]) (some 43) rfl ?_
            refine ⟨InL.of hR2.below hR2.blk, ?_⟩
            simp only [Act.put, List.setIfInBounds_toArray, List.set_cons_succ, List.set_cons_zero]
            refine wpAnyH_all (rs := [11]) (by kernel_rfl) (by decide) ?_
            intro i hi
            obtain rfl := List.mem_singleton.1 hi
            refine wpOp_val (w' := x2) rfl rfl (.bool false) (by simp [go_sem]) (some 44) rfl ?_
            refine ⟨InL.of hR2.below hR2.blk, ?_⟩
            refine wpAnyH_done (by kernel_rfl) ?_ _
            exact ⟨rfl, _, _, _, _, _, _, _, _, _, _, _, rfl, L1, u1, u2, u3, ul, hR2⟩
          rintro a' w' ⟨y33, y34, y35, y36, y37, y38, y39, y40, y41, y42, y43, rfl, hR9⟩
          have R9 : Hid _ := hR9
          clear hR9
          simp only [Act.put, List.setIfInBounds_toArray, List.set_cons_succ, List.set_cons_zero]
          clear RD
          go_wp2_with fail
          go_roundw
          case rel => exact ⟨k + 1, by omega, by omega, by go_num, by show RunE _ _ _ _ _ _ _ _ _ _; rw [HS.out]; exact R9.out⟩
          case measure => simp [intOf]; omega
        · have hl6' : ¬ (k : Int) < 60 := by omega
          go_wp2_with fail
          go_ret
          obtain ⟨L, v1, v2, v3, vl, hRN⟩ := HRE.out
          exact ⟨by simp, hRN.below⟩
      · have hlt' : ¬ (k : Int) < (n : Int) := by omega
        go_wp2_with fail
        go_ret
        obtain ⟨L, v1, v2, v3, vl, hRN⟩ := HRE.out
        exact ⟨by simp, hRN.below⟩
  · have hop := open_no c a q i h hr w1
    clear hr
    go_wp2_with (first | ((with_reducible refine wl_gT 23 _ rfl ?_); refine wl_ldT rfl 23 _ rfl ⟨w.heap.size, 0, none⟩ rfl (.agg (roomA c a q i h)) (room_load R1.out) ?_) | (go_at_call 10; refine hop.mono ?_; rintro e w2 ⟨rfl, hb2⟩; refine of_stopS ?_))
    unfold StopS
    have B2 : Hid (Below w.heap.size w w2) := below_step B1.out B1.out.size hb2
    clear hb2 hop
    go_wp2_with fail
    go_ret
    exact ⟨by simp, B2.out.alloc B2.out.size _⟩
end Go.Proofs.Ytojhckjdkafpmaa
