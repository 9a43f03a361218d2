import Derived.Test.YthddlchkbnmcaaaGreatDoorJ38
namespace Go.Proofs.YthddlchkbnmcaaaGreatDoor
open Go Go.RowKit
set_option maxRecDepth 20000

theorem ent_prio {x : Ent} {cur : Array Value} {off k : Nat} (h : ∀ j, j < 12 → cur[off + k * 12 + j]? = (entV x)[j]?) : cur[off + k * 12 + 1]? = some (.int .i64 x.prio) := h 1 (by decide)
theorem ent_act {x : Ent} {cur : Array Value} {off k : Nat} (h : ∀ j, j < 12 → cur[off + k * 12 + j]? = (entV x)[j]?) : cur[off + k * 12 + 11]? = some (.int .i64 x.action) := h 11 (by decide)
theorem step_no {ap : Ent → Bool} {b : Option (Nat × Int)} {i : Nat} {x : Ent} (h : (!x.dflt && ap x && beats x.prio b) = false) : stepB ap b i x = b := by unfold stepB; rw [h]; rfl
theorem step_yes {ap : Ent → Bool} {b : Option (Nat × Int)} {i : Nat} {x : Ent} (h : (!x.dflt && ap x && beats x.prio b) = true) : stepB ap b i x = some (i, x.prio) := by unfold stepB; rw [h]; rfl

set_option maxHeartbeats 16000000 in
set_option maxRecDepth 100000 in
theorem which_any (l : List Ent) (vl : Value) (w : World) (hl : EntsAt w vl l) (h32 : ∀ x ∈ l, ent32 x) (L : List Int) (hL : Byt L) (hP : Places w) :
    Calls Tryz.prog 23 #[vl, .agg (hv L)] w fun e w' => e = .returned (.int .i64 (whichI (applyT L) l)) ∧ Below w.heap.size w w' := by
  have hLl := hL.1
  have hp := hP.pos
  have AP : Hid (∀ (x : Ent) W, ent32 x → Below w.heap.size w W → Calls Tryz.prog 41 #[.agg (entV x), .agg (hv L)] W fun e w' => e = .returned (.bool (applyT L x)) ∧ Below W.heap.size W w') := fun x W h1 h2 => applies_any x h1 L hL W (hP.later hp h2)
  obtain ⟨o, cap, rfl, hc1, hc2⟩ := GSl.slice hl
  obtain ⟨n, hn⟩ : ∃ n, n = l.length := ⟨_, rfl⟩
  have HN : Hid (n = l.length) := hn
  rw [← hn] at hl hc1 ⊢
  have HL : Hid (EntsAt w (.slice o n cap) l) := hl
  have H32 : Hid (∀ x ∈ l, ent32 x) := h32
  unfold maxLen at hc2
  have HW : Hid (whichI (applyT L) l = if bestI (bestK (applyT L) l n) < 0 then atW (restK l n) else bestI (bestK (applyT L) l n)) := by rw [HN.out]; exact whichI_eq _ _
  obtain ⟨ap, hap⟩ : ∃ ap, ap = applyT L := ⟨_, rfl⟩
  rw [← hap] at HW AP ⊢
  have KN : Hid ((w.alloc (.cells (hv L) 31)).heap[w.heap.size]? = some (.cells (hv L) 31 (0, 0)) ∧ Below w.heap.size w (w.alloc (.cells (hv L) 31))) := ⟨heap_new _ _ _ rfl, (Below.refl _ _).alloc (Nat.le_refl _) _⟩
  clear hl hn h32 hP hp hap
  go_enter Tryz.func23, Tryz.ntmps23
  go_wp2_with fail
  go_loopw [5, 6, 11] (fun ru re i wr => ∃ k : Nat, k ≤ n ∧ i = .int .i64 (k : Int) ∧ ru = .int .i64 (bestI (bestK ap l k)) ∧ re = .int .i64 (atW (restK l k)) ∧ wr.heap[w.heap.size]? = some (.cells (hv L) 31 (0, 0)) ∧ Below w.heap.size w wr) (fun _ _ i _ => n - (intOf i).toNat)
  case atStart => exact ⟨0, Nat.zero_le _, rfl, rfl, rfl, KN.out.1, KN.out.2⟩
  case round =>
    clear KN
    obtain ⟨k, hk, rfl, rfl, rfl, hr1, hb⟩ := hrel
    have R1 : Hid (wr.heap[w.heap.size]? = some (.cells (hv L) 31 (0, 0))) := hr1
    have HB : Hid (Below w.heap.size w wr) := hb
    clear hr1 hb
    by_cases hlt : k < n
    · have hlt' : (k : Int) < (n : Int) := by omega
      obtain ⟨g, off, cur, ty, fr, x, rfl, hg, hc, hxk⟩ := (GSl.below HL.out HB.out).at k hlt
      have K1 : Hid (wr.heap[g]? = some (.cells cur ty fr)) := hg
      have H1 : Hid (∀ j, j < 12 → cur[off + k * 12 + j]? = (entV x)[j]?) := hc
      have HX : Hid (ent32 x) := H32.out x (List.mem_of_getElem? hxk)
      have BX : Hid (bestK ap l (k + 1) = stepB ap (bestK ap l k) k x) := bestK_next ap hxk
      have RX : Hid (restK l (k + 1) = (restK l k).or (if x.dflt then some k else none)) := restK_next hxk
      have KN : Hid ((wr.alloc (.cells (entV x) 35)).heap[wr.heap.size]? = some (.cells (entV x) 35 (0, 0))) := heap_new _ _ _ rfl
      have BN : Hid (Below wr.heap.size wr (wr.alloc (.cells (entV x) 35))) := (Below.refl _ _).alloc (Nat.le_refl _) _
      have RN : Hid ((wr.alloc (.cells (entV x) 35)).heap[w.heap.size]? = some (.cells (hv L) 31 (0, 0))) := heap_past _ _ _ _ R1.out
      have BWN : Hid (Below w.heap.size w (wr.alloc (.cells (entV x) 35))) := HB.out.trans (BN.out.mono HB.out.size)
      have d0 := (ent_f KN.out).1
      have HLK : Hid (∀ j p, bestK ap l k = some (j, p) → ∃ y, l[j]? = some y ∧ y.prio = p ∧ j < k) := fun j p h => by
        obtain ⟨y, h1, h2, _, _, h5⟩ := bestK_in ap h
        exact ⟨y, h1, h2, h5⟩
      clear hg hc hxk
      cases hd : x.dflt with
      | true =>
        rw [hd] at d0 RX
        have hstep : bestK ap l (k + 1) = bestK ap l k := by rw [BX.out, step_no (by rw [hd]; rfl)]
        have HST : Hid (bestK ap l (k + 1) = bestK ap l k) := hstep
        clear hstep hd
        cases hre : restK l k with
        | none =>
          rw [hre] at RX
          have HRE : Hid (restK l (k + 1) = some k) := RX.out
          rw [show atW none = -1 from rfl]
          go_wp2_with (first
            | (refine wl_loadE (E := EntE) EntOk rfl _ rfl g (off + k * 12) rfl cur ty fr (entV x) rfl K1.out H1.out ?_)
            | (refine wl_storeE (E := EntE) EntOk rfl _ _ rfl wr.heap.size (entV x) (ent_fits _) rfl rfl _ (heap_new _ _ _ rfl) rfl _ (setRow_new _ _ _ _ _ rfl) ?_))
          go_roundw
          case rel => exact ⟨k + 1, by omega, by go_num, by rw [HST.out], by rw [HRE.out]; rfl, RN.out, BWN.out⟩
          case measure => simp [intOf]; omega
        | some j =>
          rw [hre] at RX
          have HRE : Hid (restK l (k + 1) = some j) := RX.out
          rw [show atW (some j) = (j : Int) from rfl]
          have hj0 : ¬ (j : Int) < 0 := by omega
          clear hre
          go_wp2_with (first
            | (refine wl_loadE (E := EntE) EntOk rfl _ rfl g (off + k * 12) rfl cur ty fr (entV x) rfl K1.out H1.out ?_)
            | (refine wl_storeE (E := EntE) EntOk rfl _ _ rfl wr.heap.size (entV x) (ent_fits _) rfl rfl _ (heap_new _ _ _ rfl) rfl _ (setRow_new _ _ _ _ _ rfl) ?_))
          go_roundw
          case rel => exact ⟨k + 1, by omega, by go_num, by rw [HST.out], by rw [HRE.out]; rfl, RN.out, BWN.out⟩
          case measure => simp [intOf]; omega
      | false =>
        rw [hd] at d0 RX
        have HRE : Hid (restK l (k + 1) = restK l k) := by
          show _ = _
          rw [RX.out]
          cases restK l k <;> rfl
        have HDF : Hid (x.dflt = false) := hd
        clear hd
        obtain ⟨re, hre⟩ : ∃ re, re = atW (restK l k) := ⟨_, rfl⟩
        have HRR : Hid (re = atW (restK l (k + 1))) := by rw [HRE.out]; exact hre
        rw [← hre]
        clear hre
        go_wp2_with (first
          | (refine wl_loadE (E := EntE) EntOk rfl _ rfl g (off + k * 12) rfl cur ty fr (entV x) rfl K1.out H1.out ?_)
          | (refine wl_storeE (E := EntE) EntOk rfl _ _ rfl wr.heap.size (entV x) (ent_fits _) rfl rfl _ (heap_new _ _ _ rfl) rfl _ (setRow_new _ _ _ _ _ rfl) ?_)
          | (refine wl_loadE (E := EntE) EntOk rfl _ rfl wr.heap.size 0 rfl _ _ _ (entV x) rfl KN.out (own_cells _ _) ?_)
          | (refine wl_load26 rfl _ rfl w.heap.size rfl L RN.out hLl ?_))
        refine (AP.out x _ HX.out BWN.out).mono ?_
        rintro e w1 ⟨rfl, hb1⟩
        have R2 : Hid (w1.heap[w.heap.size]? = some (.cells (hv L) 31 (0, 0))) := (hb1.block _ (Array.getElem?_eq_some_iff.1 RN.out).1).trans RN.out
        have B2 : Hid (Below w.heap.size w w1) := BWN.out.trans (hb1.mono BWN.out.size)
        have k2 : w1.heap[wr.heap.size]? = some (.cells (entV x) 35 (0, 0)) := (hb1.block _ (by simp)).trans KN.out
        have BR : Hid (Below wr.heap.size wr w1) := BN.out.trans (hb1.mono BN.out.size)
        clear hb1 d0
        cases ha : ap x with
        | false =>
          have HST : Hid (bestK ap l (k + 1) = bestK ap l k) := by
            show _ = _
            rw [BX.out, step_no (by rw [ha]; simp)]
          clear ha
          obtain ⟨be, hbe⟩ : ∃ be, be = bestI (bestK ap l k) := ⟨_, rfl⟩
          have HBE : Hid (be = bestI (bestK ap l (k + 1))) := by rw [HST.out]; exact hbe
          rw [← hbe]
          clear hbe
          go_wp2_with fail
          go_roundw
          case rel => exact ⟨k + 1, by omega, by go_num, by rw [HBE.out], by rw [HRR.out], R2.out, B2.out⟩
          case measure => simp [intOf]; omega
        | true =>
          have HAP : Hid (ap x = true) := ha
          clear ha
          cases hbe : bestK ap l k with
          | none =>
            have HST : Hid (bestK ap l (k + 1) = some (k, x.prio)) := by
              show _ = _
              rw [BX.out, step_yes (by rw [HDF.out, HAP.out, hbe]; rfl)]
            clear hbe
            rw [show bestI none = -1 from rfl]
            have lp : ∀ u : Later w1, u.world.cell? ⟨wr.heap.size, 1, none⟩ = some (.int .i64 x.prio) := later_cell7 k2 rfl
            go_wp2_with fail
            have ne1 := Later.ne w1
            refine wp_region_later (by kernel_rfl) (by kernel_rfl) ?_
            repeat go_big_quiet_step (rfl)
            refine wpQuiet_nil ?_
            rintro w' ⟨v, rfl⟩
            have R3 : Hid (v.world.heap[w.heap.size]? = some (.cells (hv L) 31 (0, 0))) := later_block R2.out _ ⟨v, rfl⟩
            have B3 : Hid (Below w.heap.size w v.world) := B2.out.trans (v.below.mono B2.out.size)
            obtain ⟨W3, hW3⟩ : ∃ W3, W3 = v.world := ⟨_, rfl⟩
            rw [← hW3] at R3 B3 ⊢
            clear hW3 lp ne1
            go_wp2_with fail
            go_roundw
            case rel => exact ⟨k + 1, by omega, by go_num, by rw [HST.out]; rfl, by rw [HRR.out], R3.out, B3.out⟩
            case measure => simp [intOf]; omega
          | some bb =>
            obtain ⟨j, p⟩ := bb
            obtain ⟨y, hy, rfl, hjk⟩ := HLK.out j p hbe
            obtain ⟨g', off', cur', ty', fr', y', e0, hg', hc', hyj⟩ := (GSl.below HL.out HB.out).at j (by omega)
            simp only [Option.some.injEq, Addr.mk.injEq, and_true] at e0
            obtain ⟨rfl, rfl⟩ := e0
            obtain rfl : y = y' := Option.some.inj (hy.symm.trans hyj)
            have lg : ∀ u : Later w1, u.world.cell? ⟨g, off + j * 12 + 1, none⟩ = some (.int .i64 y.prio) := later_cell7 ((BR.out.block g (Array.getElem?_eq_some_iff.1 hg').1).trans hg') (ent_prio hc')
            have lp : ∀ u : Later w1, u.world.cell? ⟨wr.heap.size, 1, none⟩ = some (.int .i64 x.prio) := later_cell7 k2 rfl
            rw [show bestI (some (j, y.prio)) = (j : Int) from rfl]
            have hj0 : decide ((j : Int) < 0) = false := by simp
            have hj1 : (j : Int) < (n : Int) := by omega
            have hjn : j < n := by omega
            by_cases hgt : y.prio < x.prio
            · have hgt' : decide (x.prio > y.prio) = true := by simp; omega
              have HST : Hid (bestK ap l (k + 1) = some (k, x.prio)) := by
                show _ = _
                rw [BX.out, step_yes (by rw [HDF.out, HAP.out, hbe]; simp [beats, hgt])]
              clear hbe hy hyj hg' hc' hgt
              go_wp2_with fail
              have ne1 := Later.ne w1
              refine wp_region_later (by kernel_rfl) (by kernel_rfl) ?_
              repeat go_big_quiet_step (rfl)
              refine wpQuiet_nil ?_
              rintro w' ⟨v, rfl⟩
              have R3 : Hid (v.world.heap[w.heap.size]? = some (.cells (hv L) 31 (0, 0))) := later_block R2.out _ ⟨v, rfl⟩
              have B3 : Hid (Below w.heap.size w v.world) := B2.out.trans (v.below.mono B2.out.size)
              obtain ⟨W3, hW3⟩ : ∃ W3, W3 = v.world := ⟨_, rfl⟩
              rw [← hW3] at R3 B3 ⊢
              clear hW3 lp lg ne1
              go_wp2_with fail
              go_roundw
              case rel => exact ⟨k + 1, by omega, by go_num, by rw [HST.out]; rfl, by rw [HRR.out], R3.out, B3.out⟩
              case measure => simp [intOf]; omega
            · have hgt' : decide (x.prio > y.prio) = false := by simp; omega
              have HST : Hid (bestK ap l (k + 1) = some (j, y.prio)) := by
                show _ = _
                rw [BX.out, step_no (by rw [HDF.out, HAP.out, hbe]; simp [beats, hgt]), hbe]
              clear hbe hy hyj hg' hc' hgt
              go_wp2_with fail
              have ne1 := Later.ne w1
              refine wp_region_later (by kernel_rfl) (by kernel_rfl) ?_
              repeat go_big_quiet_step (rfl)
              refine wpQuiet_nil ?_
              rintro w' ⟨v, rfl⟩
              have R3 : Hid (v.world.heap[w.heap.size]? = some (.cells (hv L) 31 (0, 0))) := later_block R2.out _ ⟨v, rfl⟩
              have B3 : Hid (Below w.heap.size w v.world) := B2.out.trans (v.below.mono B2.out.size)
              obtain ⟨W3, hW3⟩ : ∃ W3, W3 = v.world := ⟨_, rfl⟩
              rw [← hW3] at R3 B3 ⊢
              clear hW3 lp lg ne1
              go_wp2_with fail
              go_roundw
              case rel => exact ⟨k + 1, by omega, by go_num, by rw [HST.out]; rfl, by rw [HRR.out], R3.out, B3.out⟩
              case measure => simp [intOf]; omega
    · have hlt' : (n : Int) ≤ (k : Int) := by omega
      obtain rfl : k = n := by omega
      clear hlt
      by_cases hneg : bestI (bestK ap l k) < 0
      · have HW2 : Hid (whichI ap l = atW (restK l k)) := by rw [HW.out]; exact if_pos hneg
        go_wp2_with fail
        go_ret
        exact ⟨by rw [HW2.out]; rfl, HB.out⟩
      · have HW2 : Hid (whichI ap l = bestI (bestK ap l k)) := by rw [HW.out]; exact if_neg hneg
        go_wp2_with fail
        go_ret
        exact ⟨by rw [HW2.out]; rfl, HB.out⟩
end Go.Proofs.YthddlchkbnmcaaaGreatDoor
