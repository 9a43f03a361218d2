import Derived.Test.YtojhckjdkafpmaaJ13
import Derived.Test.YtojhckjdkafpmaaJ14
import Derived.Test.YtojhckjdkafpmaaJ8
import Derived.Test.YtojhckjdkafpmaaJ4
import Derived.Test.YtojhckjdkafpmaaJ11
namespace Go.Proofs.Ytojhckjdkafpmaa
open Go Go.RowKit
set_option maxRecDepth 20000

def kkT (z : Int) : Slt → Int := if z = 1 then fun _ => 0 else (·.order)
theorem rhasC_any (c : Cub) (H : List Int) (hc : OkC c) (hH : Byt H) (W : World) : Calls Try.prog 74 #[.agg (cv (pad c.1) (pad c.2)), .agg (hv H)] W fun r w' => r = .returned (.bool (hsC c H)) ∧ Below W.heap.size W w' :=
  rhas_any (pad c.1) (pad c.2) H (pad_byt hc).1 (pad_byt hc).2 hH W
theorem place_z {L : List Slt} {mt : Slt → Bool} {z c : Int} (h1 : 1 ≤ z) (h3 : z ≤ 3) (hp : ∀ j : Int, 1 ≤ j → j < z → FoundTo (inB j mt) (kkT j) L L.length (-1)) (h : FoundTo (inB z mt) (kkT z) L L.length c) (hc : 0 ≤ c) : PlaceL L mt c := by
  rcases (show z = 1 ∨ z = 2 ∨ z = 3 by omega) with rfl | rfl | rfl
  · exact place_1 h hc
  · exact place_2 (hp 1 (by decide) (by decide)) h hc
  · exact place_3 (hp 1 (by decide) (by decide)) (hp 2 (by decide) (by decide)) h
theorem place_no {L : List Slt} {mt : Slt → Bool} (hp : ∀ j : Int, 1 ≤ j → j < 4 → FoundTo (inB j mt) (kkT j) L L.length (-1)) : PlaceL L mt (-1) :=
  place_3 (hp 1 (by decide) (by decide)) (hp 2 (by decide) (by decide)) (hp 3 (by decide) (by decide))
set_option maxHeartbeats 32000000 in
theorem rfind_any (B : Nat) (w : World) (r gr : Nat) (R : Rm) (L : List Slt) (vl : Value) (h : RTabV B w r gr R L vl) (e : Int) (H : List Int) (hH : Byt H) (hok : ∀ x ∈ L, OkC x.cube) (hn : L.length ≤ 1000000) :
    Calls Try.prog 59 #[.pointer (some ⟨r, 0, none⟩), .int .i64 e, .agg (hv H)] w fun q w' => (∃ c, q = .returned (.int .i64 c) ∧ PlaceL L (mtS hsC e H) c) ∧ Below w.heap.size w w' := by
  have HHl := hH.1
  have HAS : Hid (∀ x : Slt, OkC x.cube → ∀ W, Calls Try.prog 74 #[.agg (cv (pad x.cube.1) (pad x.cube.2)), .agg (hv H)] W fun r w' => r = .returned (.bool (hsC x.cube H)) ∧ Below W.heap.size W w') := by intro x hx W; exact rhasC_any x.cube H hx hH W
  have HOK : Hid (∀ x ∈ L, OkC x.cube) := hok
  obtain ⟨o, cap, ev, hc1, hc2⟩ := h.own.slice
  have hl := h.own.sl
  rw [ev] at hl
  obtain ⟨n, hn0⟩ : ∃ n, n = L.length := ⟨_, rfl⟩
  have HN : Hid (n = L.length) := hn0
  have HF : Hid (∀ W, Below w.heap.size w W → W.cell? ⟨r, 0, none⟩ = some (.slice o n cap)) := by intro W hb; have h9 := (h.below hb).f.c0; rw [ev, ← hn0] at h9; exact h9
  have PZ : Hid (∀ z c : Int, 1 ≤ z → z ≤ 3 → (∀ j : Int, 1 ≤ j → j < z → FoundTo (inB j (mtS hsC e H)) (kkT j) L n (-1)) → FoundTo (inB z (mtS hsC e H)) (kkT z) L n c → 0 ≤ c → PlaceL L (mtS hsC e H) c) := by
    intro z c h1 h2 h3 h4 h5
    rw [hn0] at h3 h4
    exact place_z h1 h2 h3 h4 h5
  have PN : Hid ((∀ j : Int, 1 ≤ j → j < 4 → FoundTo (inB j (mtS hsC e H)) (kkT j) L n (-1)) → PlaceL L (mtS hsC e H) (-1)) := by
    intro h3
    rw [hn0] at h3
    exact place_no h3
  rw [← hn0] at hl hc1 hn
  have HL : Hid (GSl SlotE slotV w (.slice o n cap) L) := hl
  unfold maxLen at hc2
  clear hl hn0 h ev hH hok
  go_enter Try.func59, Try.ntmps59
  go_wp2_with fail
  go_loopw [7] (fun s7 wr => ∃ z : Int, 1 ≤ z ∧ z ≤ 4 ∧ s7 = .int .i64 z ∧ Hid (∀ j : Int, 1 ≤ j → j < z → FoundTo (inB j (mtS hsC e H)) (kkT j) L n (-1)) ∧ Hid (wr.heap[w.heap.size]? = some (.cells (hv H) 34 (0, 0))) ∧ Hid (Below w.heap.size w wr)) (fun s7 _ => (4 - intOf s7).toNat)
  case atStart => exact ⟨1, by decide, by decide, rfl, fun j h1 h2 => by omega, heap_new _ _ _ rfl, (Below.refl _ _).alloc (Nat.le_refl _) _⟩
  case round =>
    obtain ⟨z, hz1, hz4, rfl, HP, HH0, HB0⟩ := hrel
    obtain ⟨wo, hwo⟩ : ∃ wo, wo = wr := ⟨_, rfl⟩
    by_cases hz : z ≤ 3
    · go_wp2_with fail
      go_loopw [8, 9] (fun s8 s9 wr => ∃ (k : Nat) (c : Int), k ≤ n ∧ s9 = .int .i64 (k : Int) ∧ s8 = .int .i64 c ∧ Hid (FoundTo (inB z (mtS hsC e H)) (kkT z) L k c) ∧ Hid (wr.heap[w.heap.size]? = some (.cells (hv H) 34 (0, 0))) ∧ Hid (Below w.heap.size w wr)) (fun _ s9 _ => n - (intOf s9).toNat)
      case atStart => exact ⟨0, -1, Nat.zero_le _, rfl, rfl, found_nil _, HH0, HB0⟩
      case round =>
        rename_i wr0
        clear HH0 HB0 hwo
        obtain ⟨k, c, hk, rfl, rfl, HFD, HH, HB⟩ := hrel
        have c0 := HF.out wr HB.out
        by_cases hlt : k < n
        · have hlt' : (k : Int) < (n : Int) := by omega
          obtain ⟨g', off, cur, ty, fr, y, rfl, hg, hcc, hyk⟩ := (GSl.below HL.out HB.out).at k hlt
          have K1 : Hid (wr.heap[g']? = some (.cells cur ty fr)) := hg
          have H1 : Hid (∀ j, j < 36 → cur[off + k * 36 + j]? = (slotV y)[j]?) := hcc
          have HY : Hid (L[k]? = some y) := hyk
          have HYO : Hid (OkC y.cube) := HOK.out y (List.mem_of_getElem? hyk)
          obtain ⟨w8, hw8⟩ : ∃ w8, w8 = wr.alloc (.cells (slotV y) 38) := ⟨_, rfl⟩
          have X8 : Hid (w8.heap[wr.heap.size]? = some (.cells (slotV y) 38 (0, 0))) := by show _ = _; rw [hw8]; exact heap_new _ _ _ rfl
          have B8' : Hid (Below wr.heap.size wr w8) := by show Below _ _ _; rw [hw8]; exact (Below.refl _ _).alloc (Nat.le_refl _) _
          have B8 : Hid (Below w.heap.size w w8) := below_step HB.out HB.out.size B8'.out
          have H8 : Hid (w8.heap[w.heap.size]? = some (.cells (hv H) 34 (0, 0))) := (B8'.out.block _ (Array.getElem?_eq_some_iff.1 HH.out).1).trans HH.out
          have G8 : Hid (∀ (j : Nat), j < n → ∃ x, L[j]? = some x ∧ ∀ u : Later w8, u.world.cell? ⟨g', off + j * 36 + 3, none⟩ = some (.int .i64 x.order)) := by
            intro j hj
            obtain ⟨g2, off2, cur2, ty2, fr2, x, ho2, hg2, hcc2, hx2⟩ := (GSl.below HL.out B8.out).at j hj
            simp only [Option.some.injEq, Addr.mk.injEq, and_true] at ho2
            obtain ⟨rfl, rfl⟩ := ho2
            exact ⟨x, hx2, fun u => ((slf_of hg2 hcc2).below ((later_block hg2 _ ⟨u, rfl⟩).trans hg2.symm)).c3⟩
          clear hg hcc hyk
          go_wp2_with (first | ((with_reducible refine wl_gL _ rfl ?_); refine wl_loadS rfl _ rfl g' (off + k * 36) rfl y (ld_row K1.out H1.out) ?_) | ((with_reducible refine wl_gA rfl ?_); refine wl_allocS rfl rfl ?_; try rw [sz_alloc]) | ((with_reducible refine wl_gS _ _ rfl ?_); refine wl_storeS rfl _ _ rfl wr.heap.size y zeroS rfl rfl (heap_new _ _ _ rfl) _ (setRow_new _ _ _ _ _ rfl) ?_); refine of_stopS ?_)
          unfold StopS
          rw [← hw8]
          clear hw8 c0 K1 H1
          have d9 : ∀ u : Later w8, u.world.cell? ⟨r, 0, none⟩ = some (.slice (some ⟨g', off, none⟩) n cap) := fun u => HF.out _ (below_step B8.out B8.out.size u.below)
          have d0 : ∀ u : Later w8, u.world.cell? ⟨wr.heap.size, 0, none⟩ = some (.int .i64 y.bank) := fun u => (later_slf X8.out (slf_own X8.out) u).c0
          have d1 : ∀ u : Later w8, u.world.cell? ⟨wr.heap.size, 1, none⟩ = some (.int .i64 y.epoch) := fun u => by have := (later_slf X8.out (slf_own X8.out) u).c1; simpa using this
          have d3 : ∀ u : Later w8, u.world.cell? ⟨wr.heap.size, 3, none⟩ = some (.int .i64 y.order) := fun u => by have := (later_slf X8.out (slf_own X8.out) u).c3; simpa using this
          have ne1 := Later.ne w8
          have HM : Hid (inB z (mtS hsC e H) y = ((y.bank == z) && ((y.epoch == e) && hsC y.cube H))) := rfl
          have HKK : Hid (∀ x : Slt, kkT z x = if z = 1 then 0 else x.order) := by intro x; unfold kkT; split <;> rfl
          obtain ⟨yb, hyb⟩ : ∃ yb, yb = y.bank := ⟨_, rfl⟩
          obtain ⟨ye, hye⟩ : ∃ ye, ye = y.epoch := ⟨_, rfl⟩
          obtain ⟨yo, hyo⟩ : ∃ yo, yo = y.order := ⟨_, rfl⟩
          have HYQ : Hid (yo = y.order) := hyo
          rw [← hyb] at d0 HM
          rw [← hye] at d1 HM
          rw [← hyo] at d3
          clear hyb hye hyo
          by_cases hb : yb = z
          · subst hb
            have hbd : (yb == yb) = true := by simp
            by_cases he : ye = e
            · subst he
              have hed : (ye == ye) = true := by simp
              rcases Bool.eq_false_or_eq_true (hsC y.cube H) with hh | hh
              · have HMM : Hid (inB yb (mtS hsC ye H) y = true) := by show _ = _; rw [HM.out, hh, hed, hbd]; rfl
                have hcall : ∀ W, Calls Try.prog 74 #[.agg (cv (pad y.cube.1) (pad y.cube.2)), .agg (hv H)] W fun r w' => r = .returned (.bool true) ∧ Below W.heap.size W w' := by intro W; rw [← hh]; exact HAS.out y HYO.out W
                clear hh HM
                rcases HFD.out with ⟨rfl, hf⟩ | ⟨j, x, rfl, hjk, hxj, hf⟩
                · have HFF : Hid (FoundTo (inB yb (mtS hsC ye H)) (kkT yb) L k (-1)) := HFD.out
                  clear hf HFD G8
                  go_wp2_with fail
                  refine wp_region_later (by kernel_rfl) (by kernel_rfl) ?_
                  go_big_quiet_step (rfl)
                  go_big_quiet_step (rfl)
                  go_big_quiet_step (rfl)
                  go_big_quiet_step (rfl)
                  go_big_quiet_step (rfl)
                  go_big_quiet_step (rfl)
                  go_big_quiet_step (rfl)
                  go_big_quiet_step (rfl)
                  go_big_quiet_step (rfl)
                  go_big_quiet_step (rfl)
                  go_big_quiet_step (rfl)
                  go_big_quiet_step (rfl)
                  refine qlCw rfl _ rfl wr.heap.size 4 rfl (slotV y) _ _ (pad y.cube.1) (pad y.cube.2) (pad_len _) (pad_len _) (later_block X8.out) (slotV_cube y) ?_
                  simp only [Act.put, List.setIfInBounds_toArray, List.set_cons_succ, List.set_cons_zero]
                  refine qlH rfl _ rfl w.heap.size rfl H H8.out HHl ?_
                  simp only [Act.put, List.setIfInBounds_toArray, List.set_cons_succ, List.set_cons_zero]
                  go_big_quiet_want; go_big_quiet_op
                  refine ⟨_, fun u => Calls.later_of (hcall u.world), ?_⟩
                  go_big_quiet_on
                  go_big_quiet_step (rfl)
                  go_big_quiet_step (rfl)
                  go_big_quiet_step (rfl)
                  go_big_quiet_step (rfl)
                  go_big_quiet_step (rfl)
                  go_big_quiet_step (rfl)
                  go_big_quiet_step (rfl)
                  go_big_quiet_step (rfl)
                  go_big_quiet_step (rfl)
                  go_big_quiet_step (rfl)
                  go_big_quiet_step (rfl)
                  go_big_quiet_step (rfl)
                  go_big_quiet_step (rfl)
                  go_big_quiet_step (rfl)
                  go_big_quiet_step (rfl)
                  go_big_quiet_step (rfl)
                  go_big_quiet_step (rfl)
                  go_big_quiet_step (rfl)
                  go_big_quiet_step (rfl)
                  go_big_quiet_step (rfl)
                  go_big_quiet_step (rfl)
                  go_big_quiet_step (rfl)
                  refine wpQuiet_nil ?_
                  rintro w' ⟨u, rfl⟩
                  go_wp2_with fail
                  go_roundw
                  case rel => exact ⟨k + 1, _, by omega, by go_num, rfl, found_first HFF.out HY.out HMM.out, later_block H8.out _ ⟨u, rfl⟩, below_step B8.out B8.out.size u.below⟩
                  case measure => simp [intOf]; omega
                · have HFF : Hid (FoundTo (inB yb (mtS hsC ye H)) (kkT yb) L k (j : Int)) := HFD.out
                  have HXJ : Hid (L[j]? = some x) := hxj
                  have hj0 : ¬ (j : Int) < 0 := by omega
                  have hjn : (j : Int) < (n : Int) := by omega
                  have hjd : decide ((j : Int) < 0) = false := decide_eq_false hj0
                  obtain ⟨x', hx', dx⟩ := G8.out j (by omega)
                  obtain rfl : x' = x := by rw [hxj] at hx'; exact (Option.some.inj hx').symm
                  clear hf HFD G8 hxj hx'
                  by_cases hb1 : yb = 1
                  · have hg1 : decide (yb > 1) = false := by rw [hb1]; rfl
                    have hg2 : decide (1 < yb) = false := hg1
                    have HNK : Hid (kkT yb x' ≤ kkT yb y) := by show _ ≤ _; rw [HKK.out, HKK.out, if_pos hb1, if_pos hb1]; decide
                    clear hb1
                    go_wp2_with fail
                    refine wp_region_later (by kernel_rfl) (by kernel_rfl) ?_
                    go_big_quiet_step (rfl)
                    go_big_quiet_step (rfl)
                    go_big_quiet_step (rfl)
                    go_big_quiet_step (rfl)
                    go_big_quiet_step (rfl)
                    go_big_quiet_step (rfl)
                    go_big_quiet_step (rfl)
                    go_big_quiet_step (rfl)
                    go_big_quiet_step (rfl)
                    go_big_quiet_step (rfl)
                    go_big_quiet_step (rfl)
                    go_big_quiet_step (rfl)
                    refine qlCw rfl _ rfl wr.heap.size 4 rfl (slotV y) _ _ (pad y.cube.1) (pad y.cube.2) (pad_len _) (pad_len _) (later_block X8.out) (slotV_cube y) ?_
                    simp only [Act.put, List.setIfInBounds_toArray, List.set_cons_succ, List.set_cons_zero]
                    refine qlH rfl _ rfl w.heap.size rfl H H8.out HHl ?_
                    simp only [Act.put, List.setIfInBounds_toArray, List.set_cons_succ, List.set_cons_zero]
                    go_big_quiet_want; go_big_quiet_op
                    refine ⟨_, fun u => Calls.later_of (hcall u.world), ?_⟩
                    go_big_quiet_on
                    go_big_quiet_step (rfl)
                    go_big_quiet_step (rfl)
                    go_big_quiet_step (rfl)
                    go_big_quiet_step (rfl)
                    go_big_quiet_step (rfl)
                    go_big_quiet_step (rfl)
                    go_big_quiet_step (rfl)
                    go_big_quiet_step (rfl)
                    go_big_quiet_step (rfl)
                    go_big_quiet_step (rfl)
                    go_big_quiet_step (rfl)
                    go_big_quiet_step (rfl)
                    go_big_quiet_step (rfl)
                    go_big_quiet_step (rfl)
                    go_big_quiet_step (rfl)
                    go_big_quiet_step (rfl)
                    go_big_quiet_step (rfl)
                    go_big_quiet_step (rfl)
                    go_big_quiet_step (rfl)
                    go_big_quiet_step (rfl)
                    go_big_quiet_step (rfl)
                    go_big_quiet_step (rfl)
                    refine wpQuiet_nil ?_
                    rintro w' ⟨u, rfl⟩
                    go_wp2_with fail
                    go_roundw
                    case rel => exact ⟨k + 1, _, by omega, by go_num, rfl, found_stay HFF.out HXJ.out HY.out (Int.not_lt.2 HNK.out), later_block H8.out _ ⟨u, rfl⟩, below_step B8.out B8.out.size u.below⟩
                    case measure => simp [intOf]; omega
                  · have hg1 : decide (yb > 1) = true := decide_eq_true (by omega)
                    have hg2 : decide (1 < yb) = true := hg1
                    obtain ⟨xo, hxo⟩ : ∃ xo, xo = x'.order := ⟨_, rfl⟩
                    have HXO : Hid (xo = x'.order) := hxo
                    rw [← hxo] at dx
                    clear hxo
                    by_cases hlo : yo < xo
                    · have hld : decide (yo < xo) = true := decide_eq_true hlo
                      have HNK : Hid (kkT yb y < kkT yb x') := by show _ < _; rw [HKK.out, HKK.out, if_neg hb1, if_neg hb1, ← HYQ.out, ← HXO.out]; exact hlo
                      clear hb1 hlo
                      go_wp2_with fail
                      refine wp_region_later (by kernel_rfl) (by kernel_rfl) ?_
                      go_big_quiet_step (rfl)
                      go_big_quiet_step (rfl)
                      go_big_quiet_step (rfl)
                      go_big_quiet_step (rfl)
                      go_big_quiet_step (rfl)
                      go_big_quiet_step (rfl)
                      go_big_quiet_step (rfl)
                      go_big_quiet_step (rfl)
                      go_big_quiet_step (rfl)
                      go_big_quiet_step (rfl)
                      go_big_quiet_step (rfl)
                      go_big_quiet_step (rfl)
                      refine qlCw rfl _ rfl wr.heap.size 4 rfl (slotV y) _ _ (pad y.cube.1) (pad y.cube.2) (pad_len _) (pad_len _) (later_block X8.out) (slotV_cube y) ?_
                      simp only [Act.put, List.setIfInBounds_toArray, List.set_cons_succ, List.set_cons_zero]
                      refine qlH rfl _ rfl w.heap.size rfl H H8.out HHl ?_
                      simp only [Act.put, List.setIfInBounds_toArray, List.set_cons_succ, List.set_cons_zero]
                      go_big_quiet_want; go_big_quiet_op
                      refine ⟨_, fun u => Calls.later_of (hcall u.world), ?_⟩
                      go_big_quiet_on
                      go_big_quiet_step (rfl)
                      go_big_quiet_step (rfl)
                      go_big_quiet_step (rfl)
                      go_big_quiet_step (rfl)
                      go_big_quiet_step (rfl)
                      go_big_quiet_step (rfl)
                      go_big_quiet_step (rfl)
                      go_big_quiet_step (rfl)
                      go_big_quiet_step (rfl)
                      go_big_quiet_step (rfl)
                      go_big_quiet_step (rfl)
                      refine q_nilT rfl _ rfl _ rfl ?_
                      simp only [Act.put, List.setIfInBounds_toArray, List.set_cons_succ, List.set_cons_zero]
                      go_big_quiet_step (rfl)
                      go_big_quiet_step (rfl)
                      go_big_quiet_step (rfl)
                      go_big_quiet_step (rfl)
                      go_big_quiet_step (rfl)
                      go_big_quiet_step (rfl)
                      go_big_quiet_step (rfl)
                      go_big_quiet_step (rfl)
                      go_big_quiet_step (rfl)
                      go_big_quiet_step (rfl)
                      refine wpQuiet_nil ?_
                      rintro w' ⟨u, rfl⟩
                      go_wp2_with fail
                      go_roundw
                      case rel => exact ⟨k + 1, _, by omega, by go_num, rfl, found_take HFF.out HXJ.out HY.out HMM.out HNK.out, later_block H8.out _ ⟨u, rfl⟩, below_step B8.out B8.out.size u.below⟩
                      case measure => simp [intOf]; omega
                    · have hld : decide (yo < xo) = false := decide_eq_false hlo
                      have HNK : Hid (kkT yb x' ≤ kkT yb y) := by show _ ≤ _; rw [HKK.out, HKK.out, if_neg hb1, if_neg hb1, ← HYQ.out, ← HXO.out]; omega
                      clear hb1 hlo
                      go_wp2_with fail
                      refine wp_region_later (by kernel_rfl) (by kernel_rfl) ?_
                      go_big_quiet_step (rfl)
                      go_big_quiet_step (rfl)
                      go_big_quiet_step (rfl)
                      go_big_quiet_step (rfl)
                      go_big_quiet_step (rfl)
                      go_big_quiet_step (rfl)
                      go_big_quiet_step (rfl)
                      go_big_quiet_step (rfl)
                      go_big_quiet_step (rfl)
                      go_big_quiet_step (rfl)
                      go_big_quiet_step (rfl)
                      go_big_quiet_step (rfl)
                      refine qlCw rfl _ rfl wr.heap.size 4 rfl (slotV y) _ _ (pad y.cube.1) (pad y.cube.2) (pad_len _) (pad_len _) (later_block X8.out) (slotV_cube y) ?_
                      simp only [Act.put, List.setIfInBounds_toArray, List.set_cons_succ, List.set_cons_zero]
                      refine qlH rfl _ rfl w.heap.size rfl H H8.out HHl ?_
                      simp only [Act.put, List.setIfInBounds_toArray, List.set_cons_succ, List.set_cons_zero]
                      go_big_quiet_want; go_big_quiet_op
                      refine ⟨_, fun u => Calls.later_of (hcall u.world), ?_⟩
                      go_big_quiet_on
                      go_big_quiet_step (rfl)
                      go_big_quiet_step (rfl)
                      go_big_quiet_step (rfl)
                      go_big_quiet_step (rfl)
                      go_big_quiet_step (rfl)
                      go_big_quiet_step (rfl)
                      go_big_quiet_step (rfl)
                      go_big_quiet_step (rfl)
                      go_big_quiet_step (rfl)
                      go_big_quiet_step (rfl)
                      go_big_quiet_step (rfl)
                      refine q_nilT rfl _ rfl _ rfl ?_
                      simp only [Act.put, List.setIfInBounds_toArray, List.set_cons_succ, List.set_cons_zero]
                      go_big_quiet_step (rfl)
                      go_big_quiet_step (rfl)
                      go_big_quiet_step (rfl)
                      go_big_quiet_step (rfl)
                      go_big_quiet_step (rfl)
                      go_big_quiet_step (rfl)
                      go_big_quiet_step (rfl)
                      go_big_quiet_step (rfl)
                      go_big_quiet_step (rfl)
                      go_big_quiet_step (rfl)
                      refine wpQuiet_nil ?_
                      rintro w' ⟨u, rfl⟩
                      go_wp2_with fail
                      go_roundw
                      case rel => exact ⟨k + 1, _, by omega, by go_num, rfl, found_stay HFF.out HXJ.out HY.out (Int.not_lt.2 HNK.out), later_block H8.out _ ⟨u, rfl⟩, below_step B8.out B8.out.size u.below⟩
                      case measure => simp [intOf]; omega
              · have HMM : Hid (inB yb (mtS hsC ye H) y = false) := by show _ = _; rw [HM.out, hh, hed, hbd]; rfl
                have hcall : ∀ W, Calls Try.prog 74 #[.agg (cv (pad y.cube.1) (pad y.cube.2)), .agg (hv H)] W fun r w' => r = .returned (.bool false) ∧ Below W.heap.size W w' := by intro W; rw [← hh]; exact HAS.out y HYO.out W
                clear hh HM G8
                go_wp2_with fail
                refine wp_region_later (by kernel_rfl) (by kernel_rfl) ?_
                go_big_quiet_step (rfl)
                go_big_quiet_step (rfl)
                go_big_quiet_step (rfl)
                go_big_quiet_step (rfl)
                go_big_quiet_step (rfl)
                go_big_quiet_step (rfl)
                go_big_quiet_step (rfl)
                go_big_quiet_step (rfl)
                go_big_quiet_step (rfl)
                go_big_quiet_step (rfl)
                go_big_quiet_step (rfl)
                go_big_quiet_step (rfl)
                refine qlCw rfl _ rfl wr.heap.size 4 rfl (slotV y) _ _ (pad y.cube.1) (pad y.cube.2) (pad_len _) (pad_len _) (later_block X8.out) (slotV_cube y) ?_
                simp only [Act.put, List.setIfInBounds_toArray, List.set_cons_succ, List.set_cons_zero]
                refine qlH rfl _ rfl w.heap.size rfl H H8.out HHl ?_
                simp only [Act.put, List.setIfInBounds_toArray, List.set_cons_succ, List.set_cons_zero]
                go_big_quiet_want; go_big_quiet_op
                refine ⟨_, fun u => Calls.later_of (hcall u.world), ?_⟩
                go_big_quiet_on
                go_big_quiet_step (rfl)
                go_big_quiet_step (rfl)
                go_big_quiet_step (rfl)
                go_big_quiet_step (rfl)
                go_big_quiet_step (rfl)
                go_big_quiet_step (rfl)
                go_big_quiet_step (rfl)
                go_big_quiet_step (rfl)
                go_big_quiet_step (rfl)
                go_big_quiet_step (rfl)
                go_big_quiet_step (rfl)
                go_big_quiet_step (rfl)
                go_big_quiet_step (rfl)
                go_big_quiet_step (rfl)
                go_big_quiet_step (rfl)
                go_big_quiet_step (rfl)
                go_big_quiet_step (rfl)
                go_big_quiet_step (rfl)
                go_big_quiet_step (rfl)
                go_big_quiet_step (rfl)
                go_big_quiet_step (rfl)
                go_big_quiet_step (rfl)
                refine wpQuiet_nil ?_
                rintro w' ⟨u, rfl⟩
                go_wp2_with fail
                go_roundw
                case rel => exact ⟨k + 1, _, by omega, by go_num, rfl, found_skip HFD.out HY.out HMM.out, later_block H8.out _ ⟨u, rfl⟩, below_step B8.out B8.out.size u.below⟩
                case measure => simp [intOf]; omega
            · have hed : (ye == e) = false := by simpa using he
              have HMM : Hid (inB yb (mtS hsC e H) y = false) := by show _ = _; rw [HM.out, hed, hbd]; rfl
              clear HM G8
              go_wp2_with fail
              refine wp_region_later (by kernel_rfl) (by kernel_rfl) ?_
              go_big_quiet_step (rfl)
              go_big_quiet_step (rfl)
              go_big_quiet_step (rfl)
              go_big_quiet_step (rfl)
              go_big_quiet_step (rfl)
              go_big_quiet_step (rfl)
              go_big_quiet_step (rfl)
              go_big_quiet_step (rfl)
              go_big_quiet_step (rfl)
              go_big_quiet_step (rfl)
              go_big_quiet_step (rfl)
              go_big_quiet_step (rfl)
              go_big_quiet_step (rfl)
              go_big_quiet_step (rfl)
              go_big_quiet_step (rfl)
              go_big_quiet_step (rfl)
              go_big_quiet_step (rfl)
              go_big_quiet_step (rfl)
              go_big_quiet_step (rfl)
              go_big_quiet_step (rfl)
              go_big_quiet_step (rfl)
              go_big_quiet_step (rfl)
              go_big_quiet_step (rfl)
              go_big_quiet_step (rfl)
              go_big_quiet_step (rfl)
              go_big_quiet_step (rfl)
              go_big_quiet_step (rfl)
              go_big_quiet_step (rfl)
              go_big_quiet_step (rfl)
              go_big_quiet_step (rfl)
              go_big_quiet_step (rfl)
              go_big_quiet_step (rfl)
              go_big_quiet_step (rfl)
              go_big_quiet_step (rfl)
              go_big_quiet_step (rfl)
              go_big_quiet_step (rfl)
              go_big_quiet_step (rfl)
              refine wpQuiet_nil ?_
              rintro w' ⟨u, rfl⟩
              go_wp2_with fail
              go_roundw
              case rel => exact ⟨k + 1, _, by omega, by go_num, rfl, found_skip HFD.out HY.out HMM.out, later_block H8.out _ ⟨u, rfl⟩, below_step B8.out B8.out.size u.below⟩
              case measure => simp [intOf]; omega
          · have hbd : (yb == z) = false := by simpa using hb
            have HMM : Hid (inB z (mtS hsC e H) y = false) := by show _ = _; rw [HM.out, hbd]; rfl
            clear HM G8
            go_wp2_with fail
            refine wp_region_later (by kernel_rfl) (by kernel_rfl) ?_
            go_big_quiet_step (rfl)
            go_big_quiet_step (rfl)
            go_big_quiet_step (rfl)
            go_big_quiet_step (rfl)
            go_big_quiet_step (rfl)
            go_big_quiet_step (rfl)
            go_big_quiet_step (rfl)
            go_big_quiet_step (rfl)
            go_big_quiet_step (rfl)
            go_big_quiet_step (rfl)
            go_big_quiet_step (rfl)
            go_big_quiet_step (rfl)
            go_big_quiet_step (rfl)
            go_big_quiet_step (rfl)
            go_big_quiet_step (rfl)
            go_big_quiet_step (rfl)
            go_big_quiet_step (rfl)
            go_big_quiet_step (rfl)
            go_big_quiet_step (rfl)
            go_big_quiet_step (rfl)
            go_big_quiet_step (rfl)
            go_big_quiet_step (rfl)
            go_big_quiet_step (rfl)
            go_big_quiet_step (rfl)
            go_big_quiet_step (rfl)
            go_big_quiet_step (rfl)
            go_big_quiet_step (rfl)
            go_big_quiet_step (rfl)
            go_big_quiet_step (rfl)
            go_big_quiet_step (rfl)
            go_big_quiet_step (rfl)
            go_big_quiet_step (rfl)
            go_big_quiet_step (rfl)
            go_big_quiet_step (rfl)
            go_big_quiet_step (rfl)
            go_big_quiet_step (rfl)
            go_big_quiet_step (rfl)
            refine wpQuiet_nil ?_
            rintro w' ⟨u, rfl⟩
            go_wp2_with fail
            go_roundw
            case rel => exact ⟨k + 1, _, by omega, by go_num, rfl, found_skip HFD.out HY.out HMM.out, later_block H8.out _ ⟨u, rfl⟩, below_step B8.out B8.out.size u.below⟩
            case measure => simp [intOf]; omega
        · have hlt' : ¬ (k : Int) < (n : Int) := by omega
          have hkn : k = n := by omega
          subst hkn
          by_cases hcc : 0 ≤ c
          · have hc' : c ≥ 0 := hcc
            have EP : Hid (PlaceL L (mtS hsC e H) c) := PZ.out z c hz1 hz HP.out HFD.out hcc
            go_wp2_with fail
            go_ret
            exact ⟨⟨c, rfl, EP.out⟩, HB.out⟩
          · have hc' : ¬ c ≥ 0 := hcc
            have HP' : Hid (∀ j : Int, 1 ≤ j → j < z + 1 → FoundTo (inB j (mtS hsC e H)) (kkT j) L k (-1)) := by
              intro j hj1 hj2
              by_cases hjz : j = z
              · subst hjz
                have h9 := HFD.out
                rcases h9 with ⟨rfl, hf⟩ | ⟨j', x, rfl, _⟩
                · exact .inl ⟨rfl, hf⟩
                · omega
              · exact HP.out j hj1 (by omega)
            go_wp2_with fail
            go_roundw
            case rel => exact ⟨z + 1, by omega, by omega, by go_num, HP', HH, HB⟩
            case measure => simp [intOf]; omega
    · have hz' : ¬ z ≤ 3 := hz
      have HZ : Hid (z = 4) := by show _ = _; omega
      go_wp2_with fail
      go_ret
      exact ⟨⟨-1, rfl, PN.out (by rw [← HZ.out]; exact HP.out)⟩, HB0.out⟩
end Go.Proofs.Ytojhckjdkafpmaa
namespace Go.Proofs.Ytojhckjdkafpmaa
open Go Go.RowKit
set_option maxRecDepth 20000

/-- One operation of a drawn region, by the laws for a list of them. -/
theorem wpOp_of_list {P : Program} {ops : Array Oper} {Q : Exit → Act → World → Prop} {i : Nat} {o : Oper} {K : Act → World → Prop} {a : Act} {w : World} (hi : ops[i]? = some o)
    (h : wpList P ops (fun e a' w' => match e with | .normal => K a' w' | e => Q e a' w') [o] a w) : wpOp P ops Q i K a w := by
  unfold Go.wpOp
  simp only [hi]
  unfold wpList at h
  by_cases hw : Region.wanted o (yielded ops a.tmps) = true
  · rw [if_pos hw] at h ⊢
    rcases h with h | h
    · refine .inl ?_
      unfold Oper.wp at h ⊢
      revert h
      generalize (execOp a.eval o).run P w = r
      intro h
      unfold Oper.upon at h ⊢
      split at h
      · exact h
      · exact h
      · exact h
      · refine h.mono ?_
        intro e w1 h1
        cases e <;> exact h1
      · exact h
      · exact h
      · exact h.elim
    · exact .inr h
  · rw [if_neg hw] at h ⊢
    exact h
theorem eval_put (a : Act) (k j : Nat) (v : Value) (hk : k < a.tmps.size) : (a.put (some k) v).eval (.tmp j) = if j = k then v else a.eval (.tmp j) := by
  simp only [Act.eval, Act.put, Array.getElem?_setIfInBounds, Array.getD_eq_getD_getElem?]
  by_cases h : j = k
  · subst h; simp [hk]
  · simp [h, Ne.symm h]
theorem size_put (a : Act) (d : Option Tmp) (v : Value) : (a.put d v).tmps.size = a.tmps.size := by
  cases d <;> simp [Act.put]
theorem w_set_heap (w : World) : w.drew.heap = w.heap := rfl
theorem gb_drew (w : World) (g : Nat) : w.grownBy w.drew (some g) := ⟨rfl, rfl, rfl, Nat.le_refl _, fun _ _ _ => rfl⟩
theorem load_cell {ty e : TypeId} (hu : Try.prog.underlying ty = some (.slice e)) (W : World) (ad : Addr) (v : Value) (h : W.cell? ad = some v) : (Instr.loadAt ty (.pointer (some ad))).run Try.prog W = .ok v W := by
  have ha : (isAgg ty).run Try.prog W = .ok false W := by unfold isAgg; rw [Sem.run_bind, run_underlying hu W]; simp [go_sem]
  simp [Instr.loadAt, Instr.sureAddr, loadVar, Sem.run_bind, ha, go_sem, h]
theorem store_cell {ty : TypeId} (hsz : ∀ W, (sizeOf ty).run Try.prog W = .ok 1 W) (W : World) (ad : Addr) (v u : Value) (hv : ∃ o n c, v = .slice o n c) (h : W.cell? ad = some u) (hz : W.frozen? ad = false) : (Instr.storeAt ty (.pointer (some ad)) v).run Try.prog W = .ok () (W.setCell ad v) := by
  obtain ⟨o, n, c, rfl⟩ := hv
  simp [Instr.storeAt, Instr.sureAddr, storeVar, Sem.run_bind, hsz, go_sem, h, hz]
/-- One operation whose value is known. -/
theorem wpOp_val {ops : Array Oper} {Q : Exit → Act → World → Prop} {i : Nat} {o : Oper} {K : Act → World → Prop} {a : Act} {w w' : World} (hi : ops[i]? = some o) (hw : Region.wanted o (yielded ops a.tmps) = true) (v : Value)
    (hx : (execOp a.eval o).run Try.prog w = .ok (.value v) w') (d : Option Tmp) (hd : o.dst = d) (hK : K (a.put d v) w') : wpOp Try.prog ops Q i K a w := by
  subst hd
  refine wpOp_wanted hi hw ?_
  unfold Oper.wp
  rw [hx]
  exact hK
theorem wpOp_skip6 {ops : Array Oper} {Q : Exit → Act → World → Prop} {i : Nat} {o : Oper} {K : Act → World → Prop} {a : Act} {w w' : World} (hi : ops[i]? = some o) (hw : Region.wanted o (yielded ops a.tmps) = true)
    (hx : (execOp a.eval o).run Try.prog w = .ok .skip w') (d : Option Tmp) (hd : o.dst = d) (hK : K (a.put d undef) w') : wpOp Try.prog ops Q i K a w := by
  subst hd
  refine wpOp_wanted hi hw ?_
  unfold Oper.wp
  rw [hx]
  exact hK
theorem wpOp_skip0 {ops : Array Oper} {Q : Exit → Act → World → Prop} {i : Nat} {o : Oper} {K : Act → World → Prop} {a : Act} {w w' : World} (hi : ops[i]? = some o) (hw : Region.wanted o (yielded ops a.tmps) = true)
    (hx : (execOp a.eval o).run Try.prog w = .ok .skip w') (hd : o.dst = none) (hK : K a w') : wpOp Try.prog ops Q i K a w :=
  wpOp_skip6 hi hw hx none hd hK
theorem wpOp_callQ {ops : Array Oper} {Q : Exit → Act → World → Prop} {i : Nat} {o : Oper} {K : Act → World → Prop} {a : Act} {w : World} (hi : ops[i]? = some o) (hw : Region.wanted o (yielded ops a.tmps) = true) (f : FuncId) (vs : Array Value)
    (hf : (execOp a.eval o).run Try.prog w = .ok (.enter f vs) w) (D : Ending → World → Prop) (h : Calls Try.prog f vs w D) (d : Option Tmp) (hd : o.dst = d) (hK : ∀ v w', D (.returned v) w' → K (a.put d v) w') (hP : ∀ ch w', D (.panicked ch) w' → Q (.panic ch) a w') (hO : ∀ w', ¬ D .outgrown w') : wpOp Try.prog ops Q i K a w := by
  subst hd
  refine wpOp_wanted hi hw ?_
  unfold Oper.wp
  rw [hf]
  refine h.mono ?_
  intro e w' hD
  cases e with
  | returned v => exact hK v w' hD
  | panicked ch => exact hP ch w' hD
  | outgrown => exact absurd hD (hO w')

theorem run_fieldOp {o : Oper} {t i : Nat} {x : Operand} (ho : o.op = .fieldAddr t x i) (a : Act) (W : World) (v : Value) (h : (Instr.fieldAt t (a.eval x) i).run Try.prog W = .ok v W) : (execOp a.eval o).run Try.prog W = .ok (.value v) W := by
  unfold execOp
  simp only [ho, Sem.run_bind, h, Result.andThen_ok, Sem.run_pure]
theorem run_moveOp {o : Oper} {x : Operand} (ho : o.op = .move x) (a : Act) (W : World) (v : Value) (h : a.eval x = v) : (execOp a.eval o).run Try.prog W = .ok (.value v) W := by
  unfold execOp
  simp only [ho, Sem.run_pure, h]
theorem run_loadOp {o : Oper} {t : Nat} {x : Operand} (ho : o.op = .load t x) (a : Act) (W : World) (u v : Value) (hu : a.eval x = u) (h : (Instr.loadAt t u).run Try.prog W = .ok v W) : (execOp a.eval o).run Try.prog W = .ok (.value v) W := by
  unfold execOp
  simp only [ho, Sem.run_bind, hu, h, Result.andThen_ok, Sem.run_pure]
theorem run_storeOp {o : Oper} {t : Nat} {x y : Operand} (ho : o.op = .store t x y) (a : Act) (W W' : World) (u v : Value) (hu : a.eval x = u) (hv : a.eval y = v) (h : (Instr.storeAt t u v).run Try.prog W = .ok () W') : (execOp a.eval o).run Try.prog W = .ok .skip W' := by
  unfold execOp
  simp only [ho, Sem.run_bind, hu, hv, h, Result.andThen_ok, Sem.run_pure]
theorem run_callOp {o : Oper} {f : Nat} {x : Operand} {ts : Array TypeId} (ho : o.op = .call { callee := .value (.func f), args := #[x], argTypes := ts }) (hf : ∀ vs W, (callFunc f vs).run Try.prog W = .ok (.enter f vs) W) (a : Act) (W : World) (v : Value) (h : a.eval x = v) : (execOp a.eval o).run Try.prog W = .ok (.enter f #[v]) W := by
  unfold execOp
  have hef : a.eval (.func f) = .func (.func f) #[] #[] := rfl
  simp only [ho, resolve, hef, List.map_toArray, List.map_cons, List.map_nil, h]
  simp [go_sem, hf]
end Go.Proofs.Ytojhckjdkafpmaa
namespace Go.Proofs.Ytojhckjdkafpmaa
open Go Go.RowKit
set_option maxRecDepth 20000

theorem region_cutQ {P : Program} {c : Code} {Q : Exit → Act → World → Prop} {a : Act} {w : World} (h : c.wp P (fun e a' w' => e = .normal ∧ Q .normal a' w') a w) : c.wp P Q a w :=
  Code.wp_mono (by rintro e a' w' ⟨rfl, h⟩; exact h) h
/-- Worlds in which two blocks are so. -/
structure KeepT (g1 : Nat) (o1 : Obj) (g2 : Nat) (o2 : Obj) where
  world : World
  k1 : world.heap[g1]? = some o1
  k2 : world.heap[g2]? = some o2
abbrev InK (g1 : Nat) (o1 : Obj) (g2 : Nat) (o2 : Obj) (w : World) : Prop := ∃ z : KeepT g1 o1 g2 o2, w = z.world
theorem InK.of {g1 g2 : Nat} {o1 o2 : Obj} {w : World} (h1 : w.heap[g1]? = some o1) (h2 : w.heap[g2]? = some o2) : InK g1 o1 g2 o2 w := ⟨⟨w, h1, h2⟩, rfl⟩
theorem run_nilOp {o : Oper} {x : Operand} (ho : o.op = .nilCheck x) (a : Act) (W : World) (ad : Addr) (hx : a.eval x = .pointer (some ad)) : (execOp a.eval o).run Try.prog W = .ok (.value (.pointer (some ad))) W := by
  unfold execOp
  simp only [ho, hx]
  simp [go_sem]
/-- A test for nil is taken first. -/
theorem take_nil {ops : Array Oper} {F : Act → World → Prop} {S : World → Prop} {i : Nat} {oi : Oper} {fuel : Nat} {listed : Array Bool} {a : Act} {w : World} (d : Option Tmp) (hi : ops[i]? = some oi) (hd : oi.dst = d) (x : Operand) (ho : oi.op = .nilCheck x) (ad : Addr) (hx : a.eval x = .pointer (some ad)) (hw : Region.wanted oi (yielded ops a.tmps) = true)
    (hs : Region.noSelect ops = true) (hf : Region.free .any ops listed i = true) (hr : (Region.ready .any ops listed).contains i = true) (hS : S w)
    (h : wpAnyH Try.prog .any ops (fun e a' w' => e = .normal ∧ F a' w') S fuel (listed.setIfInBounds i true) (a.put d (.pointer (some ad))) w) : wpAnyH Try.prog .any ops (fun e a' w' => e = .normal ∧ F a' w') S (fuel + 1) listed a w := by
  subst hd
  exact wpAnyH_take hi hs hf hr (fun c a w h => absurd h.1 (by simp)) (.inl ⟨hw, fun w' _ => run_nilOp ho a w' ad hx⟩) hS h
theorem store_sl {o : Oper} {x y : Operand} (ho : o.op = .store 43 x y) (a : Act) (W : World) (ad : Addr) (o1 : Option Addr) (n c : Nat) (old : Value) (hx : a.eval x = .pointer (some ad)) (hy : a.eval y = .slice o1 n c) (hc : W.cell? ad = some old) (hf : W.frozen? ad = false) : (execOp a.eval o).run Try.prog W = .ok .skip (W.setCell ad (.slice o1 n c)) := by
  have hz : ∀ w, (sizeOf 43).run Try.prog w = .ok 1 w := fun w => by kernel_rfl
  unfold execOp
  simp only [ho, hx, hy]
  simp [go_sem, hz, hc, hf, storeVar, storeCells, Instr.storeAt, Instr.sureAddr]
/-- Worlds in which one block is so. -/
structure KeepO (g1 : Nat) (o1 : Obj) where
  world : World
  k1 : world.heap[g1]? = some o1
abbrev InO (g1 : Nat) (o1 : Obj) (w : World) : Prop := ∃ z : KeepO g1 o1, w = z.world
theorem InO.of {g1 : Nat} {o1 : Obj} {w : World} (h1 : w.heap[g1]? = some o1) : InO g1 o1 w := ⟨⟨w, h1⟩, rfl⟩
theorem load_sl {o : Oper} {x : Operand} (ho : o.op = .load 43 x) (a : Act) (W : World) (ad : Addr) (v : Value) (hx : a.eval x = .pointer (some ad)) (hc : W.cell? ad = some v) : (execOp a.eval o).run Try.prog W = .ok (.value v) W :=
  run_loadOp ho a W _ v hx (load_cell Try.underlying43 W ad v hc)
theorem wpOp_build1S {ops : Array Oper} {Q : Exit → Act → World → Prop} {i : Nat} {o : Oper} {K : Act → World → Prop} {a : Act} {w : World} (hi : ops[i]? = some o) (hg : o.guard = none) (x : Operand) (ho : o.op = .buildSlice 43 1 #[(0, x)]) (s : Slt) (hx : a.eval x = .agg (slotV s)) (d : Option Tmp) (hd : o.dst = d)
    (hK : K (a.put d (.slice (some ⟨w.heap.size, 0, none⟩) 1 1)) (w.alloc (.cells (slotV s) 38))) : wpOp Try.prog ops Q i K a w := by
  subst hd
  exact wpOp_of_list hi (wl_build1S hg x ho s hx hK)
theorem wpOp_appendS {ops : Array Oper} {Q : Exit → Act → World → Prop} {i : Nat} {o : Oper} {K : Act → World → Prop} {a : Act} {w : World} (hi : ops[i]? = some o) (hgd : o.guard = none) (s x : Operand) (ho : o.op = .call { callee := .builtin .append, args := #[s, x], argTypes := #[43, 43] })
    (B : Nat) (v : Value) (C : List Slt) (c : Slt) (hs : a.eval s = v) (hown : SlotsAt B w v C) (g cap : Nat) (hx : a.eval x = .slice (some ⟨g, 0, none⟩) 1 cap) (hg : w.heap[g]? = some (.cells (slotV c) 38 (0, 0)))
    (hn : C.length ≤ 1000000) (hB : B ≤ w.heap.size) (d : Option Tmp) (hd : o.dst = d)
    (hK : ∀ v' w', SlotsAt B w' v' (C ++ [c]) → w.grownBy w' v.ownBlock → (v'.ownBlock = v.ownBlock ∨ v'.ownBlock = some w.heap.size) → K (a.put d v') w') : wpOp Try.prog ops Q i K a w := by
  subst hd
  exact wpOp_of_list hi (wl_appendS hgd s x ho B v C c hs hown g cap hx hg hn hB hK)
/-- What an append to a bank of the table leaves. -/
theorem app_fin {B : Nat} {w W : World} {g : Nat} {R : Rm} {S : Bks} {v1 v2 v3 : Value} {b : Nat} {s : Slt} (h : TabV B w g R S v1 v2 v3) (hb4 : b < 4) (hb0 : b ≠ 0) (hB : Below w.heap.size w W) (v' : Value) (w9 : World) (hown : SlotsAt B w9 v' (bankL S b ++ [s])) (hgr : (W.drew.alloc (.cells (slotV s) 38)).grownBy w9 (bankV v1 v2 v3 b).ownBlock) (hat : v'.ownBlock = (bankV v1 v2 v3 b).ownBlock ∨ v'.ownBlock = some (W.drew.alloc (.cells (slotV s) 38)).heap.size) :
    (∃ o n c, v' = .slice o n c) ∧ w9.cell? ⟨g, 4 + b, none⟩ = some (bankV v1 v2 v3 b) ∧ w9.frozen? ⟨g, 4 + b, none⟩ = false ∧ (∀ q o, ¬ footT g v1 v2 v3 q → W.heap[q]? = some o → w9.heap[q]? = some o ∧ (w9.setCell ⟨g, 4 + b, none⟩ v').heap[q]? = some o) ∧ TabTo B w (w9.setCell ⟨g, 4 + b, none⟩ v') g R (setL S b (bankL S b ++ [s])) v1 v2 v3 := by
  have hBW : Below w.heap.size w (W.drew.alloc (.cells (slotV s) 38)) := (hB.trans ((Below.refl _ _).drew.mono hB.size)).alloc (by have := hB.size; exact this) _
  have hT := h.below hBW
  have hk : Kept (rowX (bankV v1 v2 v3 b)) (W.drew.alloc (.cells (slotV s) 38)) w9 := Kept.of_grown hgr fun k e => e
  obtain ⟨r1, r2, r3⟩ := hT.put b hb4 v' _ hk hown (by
    rcases hat with e | e
    · exact .inl e
    · exact .inr fun k hk => by rw [e] at hk; simp only [Option.some.injEq] at hk; omega) (fun e => absurd e hb0)
  have hgx : ¬ rowX (bankV v1 v2 v3 b) g := (hT.bank b).ty hT.blk (by decide)
  have hbk := hk.heap hT.blk hgx
  obtain ⟨o, c, e, _⟩ := hown.slice
  refine ⟨⟨o, _, c, e⟩, (tabf_of hbk).bankCell b hb4, by simp [World.frozen?, hbk], fun q ob hq hqo => ?_, _, _, _, r1, Kept.pre hBW r2, fun k hk => ?_⟩
  · have h1 : w9.heap[q]? = some ob := hk.heap (heap_past _ _ _ _ hqo) fun e => hq (by
      unfold rowX bankV at e
      split at e
      · exact .inr (.inl e)
      · split at e
        · exact .inr (.inr (.inl e))
        · split at e
          · exact .inr (.inr (.inr e))
          · cases e)
    exact ⟨h1, by rw [heap_setCell_other _ _ _ _ (fun e => hq (.inl e))]; exact h1⟩
  · rcases r3 k hk with e | e
    · exact .inl e
    · exact .inr (Nat.le_trans hBW.size e)
end Go.Proofs.Ytojhckjdkafpmaa
