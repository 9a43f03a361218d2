import Derived.Test.YtfamnloobmdhdaaDoorJ17
namespace Go.Proofs.YtfamnloobmdhdaaDoor
open Go Go.RowKit
set_option maxRecDepth 20000

set_option maxHeartbeats 4000000 in
theorem refBegins_any (a b n : Int) (ha : 0 ≤ a ∧ a < 4294967296) (hb : 0 ≤ b ∧ b < 4294967296) (w : World) :
    Calls Tryd.prog 35 #[.int .u32 a, .int .u32 b, .int .i64 n] w fun e w' => e = .returned (.bool (beginsM a b n)) ∧ Below w.heap.size w w' := by
  obtain ⟨K, hK⟩ : ∃ K, K = clB n := ⟨_, rfl⟩
  have hK32 : K ≤ 32 := by rw [hK]; unfold clB; omega
  have HB : Hid (beginsM a b n = (a / 2 ^ (32 - K) == b / 2 ^ (32 - K))) := by rw [hK]; exact rfl
  have HLT : Hid (∀ k : Nat, k < K ↔ ((k : Int) < n ∧ (k : Int) < 32)) := fun k => by rw [hK]; unfold clB; omega
  have HZ : Hid (a / 2 ^ 32 = b / 2 ^ 32) := begins_zero a b ha hb
  have HS : Hid (∀ k : Nat, k < 32 → a / 2 ^ (32 - k) = b / 2 ^ (32 - k) → ((a / 2 ^ (32 - (k + 1)) = b / 2 ^ (32 - (k + 1))) ↔ a / 2 ^ (31 - k) % 2 = b / 2 ^ (31 - k) % 2)) := fun k h1 h2 => begins_step a b k h1 h2
  have HM : Hid (∀ k : Nat, k ≤ K → ¬ a / 2 ^ (32 - k) = b / 2 ^ (32 - k) → ¬ a / 2 ^ (32 - K) = b / 2 ^ (32 - K)) := fun k h1 h2 => begins_more a b k K h1 hK32 h2
  have ha0 := ha.1
  have hb0 := hb.1
  have ha1 := ha.2
  have hb1 := hb.2
  clear hK ha hb
  go_enter Tryd.func35, Tryd.ntmps35
  go_wp2_with fail
  go_loopw [7] (fun i wr => ∃ k : Nat, k ≤ K ∧ i = .int .i64 (k : Int) ∧ Hid (a / 2 ^ (32 - k) = b / 2 ^ (32 - k)) ∧ Below w.heap.size w wr) (fun i _ => K - (intOf i).toNat)
  case atStart => exact ⟨0, Nat.zero_le _, rfl, HZ.out, Below.refl _ _⟩
  case round =>
    obtain ⟨k, hk, rfl, HI, hbw⟩ := hrel
    have HBW : Hid (Below w.heap.size w wr) := hbw
    clear hbw
    by_cases hlt : k < K
    · obtain ⟨h1, h2⟩ := (HLT.out k).1 hlt
      have HSS := HS.out k (by omega) HI.out
      have ta : (a / 2 ^ (31 - k)).tmod 2 = a / 2 ^ (31 - k) % 2 := Int.tmod_eq_emod_of_nonneg (Int.ediv_nonneg ha0 (Int.pow_nonneg (by decide)))
      have tb : (b / 2 ^ (31 - k)).tmod 2 = b / 2 ^ (31 - k) % 2 := Int.tmod_eq_emod_of_nonneg (Int.ediv_nonneg hb0 (Int.pow_nonneg (by decide)))
      rw [← ta, ← tb] at HSS
      clear ta tb
      by_cases hq : (a / 2 ^ (31 - k)).tmod 2 = (b / 2 ^ (31 - k)).tmod 2
      · have hq' : ((a / 2 ^ (31 - k)).tmod 2 != (b / 2 ^ (31 - k)).tmod 2) = false := by simp [hq]
        have HI2 : Hid (a / 2 ^ (32 - (k + 1)) = b / 2 ^ (32 - (k + 1))) := HSS.2 hq
        clear HSS hq
        go_wp2_with fail
        have ne1 := Later.ne wr
        refine wp_region_later (by kernel_rfl) (by kernel_rfl) ?_
        repeat go_big_quiet_step (rfl)
        refine wpQuiet_nil ?_
        rintro w' ⟨v, rfl⟩
        have B3 : Hid (Below w.heap.size w v.world) := HBW.out.trans (v.below.mono HBW.out.size)
        obtain ⟨W3, hW3⟩ : ∃ W3, W3 = v.world := ⟨_, rfl⟩
        rw [← hW3] at B3 ⊢
        clear hW3 ne1
        go_wp2_with fail
        go_roundw
        case rel => exact ⟨k + 1, by omega, by go_num, HI2, B3.out⟩
        case measure => simp [intOf]; omega
      · have hq' : ((a / 2 ^ (31 - k)).tmod 2 != (b / 2 ^ (31 - k)).tmod 2) = true := by simp [hq]
        have HF : Hid (beginsM a b n = false) := by
          show _ = _
          rw [HB.out, beq_eq_false_iff_ne]
          exact HM.out (k + 1) (by omega) fun h => hq (HSS.1 h)
        clear HSS hq
        go_wp2_with fail
        have ne1 := Later.ne wr
        refine wp_region_later (by kernel_rfl) (by kernel_rfl) ?_
        repeat go_big_quiet_step (rfl)
        refine wpQuiet_nil ?_
        rintro w' ⟨v, rfl⟩
        have B3 : Hid (Below w.heap.size w v.world) := HBW.out.trans (v.below.mono HBW.out.size)
        go_wp2_with fail
        go_ret
        exact ⟨by rw [HF.out]; rfl, B3.out⟩
    · obtain rfl : k = K := by omega
      have HT : Hid (beginsM a b n = true) := by
        show _ = _
        rw [HB.out, beq_iff_eq]
        exact HI.out
      have hno := fun h => hlt ((HLT.out k).2 h)
      clear hlt
      by_cases h1 : (k : Int) < n
      · have h2 : ¬ (k : Int) < 32 := fun h => hno ⟨h1, h⟩
        clear hno
        go_wp2_with fail
        go_ret
        exact ⟨by rw [HT.out]; rfl, HBW.out⟩
      · clear hno
        go_wp2_with fail
        go_ret
        exact ⟨by rw [HT.out]; rfl, HBW.out⟩

set_option maxHeartbeats 2000000 in
theorem number7_any (L : List Int) (hL : Byt L) (f : Int) (h0 : 0 ≤ f) (h1 : f < 5) (w : World) :
    Calls Tryd.prog 36 #[.agg (hv L), .int .i64 f] w fun e w' => e = .returned (.int .i64 (fldN L f)) ∧ Below w.heap.size w w' := by
  have hl := hL.1
  have hf := fldN_bd L hL f h0 h1
  have FC : Hid (∀ W, Calls Tryd.prog 58 #[.agg (hv L), .int .i64 f] W fun e w' => e = .returned (.tuple #[.int .u32 (fldN L f), .int .i64 0]) ∧ Below W.heap.size W w') := fun W => refField_ok L hL f W h0 h1
  obtain ⟨F, hF⟩ : ∃ F, F = fldN L f := ⟨_, rfl⟩
  rw [← hF] at hf FC ⊢
  have f0 := hf.1
  have f1 := hf.2
  clear hF hf
  have KN : Hid ((w.alloc (.cells (hv L) 37)).heap[w.heap.size]? = some (.cells (hv L) 37 (0, 0)) ∧ Below w.heap.size w (w.alloc (.cells (hv L) 37))) := ⟨heap_new _ _ _ rfl, (Below.refl _ _).alloc (Nat.le_refl _) _⟩
  go_enter Tryd.func36, Tryd.ntmps36
  go_wp2_with (refine wl_load26 rfl _ rfl w.heap.size rfl L KN.out.1 hl ?_)
  refine (FC.out _).mono ?_
  rintro e w1 ⟨rfl, hb1⟩
  go_wp2_with fail
  go_ret
  exact ⟨rfl, KN.out.2.trans (hb1.mono KN.out.2.size)⟩
end Go.Proofs.YtfamnloobmdhdaaDoor
