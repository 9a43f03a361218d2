import Derived.Test.YtfamnloobmdhdaaDoorJ18
namespace Go.Proofs.YtfamnloobmdhdaaDoor
open Go Go.RowKit
set_option maxRecDepth 20000

theorem flt_prio {x : Raw} (h : (decide (x.prio.n < 0) || decide (65535 < x.prio.n)) = true) : fltR (faultR x) = (10, x.prio.pos) := by unfold faultR; rw [if_pos h]; rfl
theorem flt_cs {x : Raw} (h : (decide (x.prio.n < 0) || decide (65535 < x.prio.n)) = false) : fltR (faultR x) = fltR (faultCs [] x.clauses) := by unfold faultR; rw [h]; rfl
theorem cs_drop {l : List Cla} {k : Nat} {c : Cla} (h : l[k]? = some c) : faultCs (l.take k) (l.drop k) = (faultC (l.take k) c).bind fun _ => faultCs (l.take (k + 1)) (l.drop (k + 1)) := by
  obtain ⟨hk, rfl⟩ := List.getElem?_eq_some_iff.1 h
  rw [List.drop_eq_getElem_cons hk, faultCs, List.take_succ_eq_append_getElem hk]
theorem cs_many {l : List Cla} {k : Nat} {c : Cla} (h : l[k]? = some c) (hm : (mustN c == 0 || c.nums.length != mustN c) = true) : fltR (faultCs (l.take k) (l.drop k)) = (8, c.pos) := by
  rw [cs_drop h]; unfold faultC; rw [if_pos hm]; rfl
theorem cs_twice {l : List Cla} {k : Nat} {c : Cla} (h : l[k]? = some c) (hm : (mustN c == 0 || c.nums.length != mustN c) = false) (ht : (l.take k).any (fun d => d.word == c.word) = true) : fltR (faultCs (l.take k) (l.drop k)) = (9, c.pos) := by
  rw [cs_drop h]; unfold faultC; rw [hm, ht]; rfl
theorem cs_nums {l : List Cla} {k : Nat} {c : Cla} (h : l[k]? = some c) (hm : (mustN c == 0 || c.nums.length != mustN c) = false) (ht : (l.take k).any (fun d => d.word == c.word) = false) : fltR (faultCs (l.take k) (l.drop k)) = fltR ((faultN c (nth c 0) 0 c.nums).bind fun _ => faultCs (l.take (k + 1)) (l.drop (k + 1))) := by
  rw [cs_drop h]; unfold faultC; rw [hm, ht]; rfl
theorem fn_drop {c : Cla} {a : Int} {k : Nat} {f : Fig} (h : c.nums[k]? = some f) : faultN c a k (c.nums.drop k) = if decide (f.n < 0) || decide (mostN c.word k < f.n) || (c.dash && isPortW c.word && k == 1 && decide (f.n < a)) then .error (10, f.pos) else faultN c a (k + 1) (c.nums.drop (k + 1)) := by
  obtain ⟨hk, rfl⟩ := List.getElem?_eq_some_iff.1 h
  rw [List.drop_eq_getElem_cons hk, faultN]
theorem fn_bad {c : Cla} {a : Int} {k : Nat} {f : Fig} (h : c.nums[k]? = some f) (hb : (decide (f.n < 0) || decide (mostN c.word k < f.n) || (c.dash && isPortW c.word && k == 1 && decide (f.n < a))) = true) (g : Unit → ResI Unit) : fltR ((faultN c a k (c.nums.drop k)).bind g) = (10, f.pos) := by rw [fn_drop h, hb]; rfl
theorem fn_good {c : Cla} {a : Int} {k : Nat} {f : Fig} (h : c.nums[k]? = some f) (hb : (decide (f.n < 0) || decide (mostN c.word k < f.n) || (c.dash && isPortW c.word && k == 1 && decide (f.n < a))) = false) (g : Unit → ResI Unit) : fltR ((faultN c a k (c.nums.drop k)).bind g) = fltR ((faultN c a (k + 1) (c.nums.drop (k + 1))).bind g) := by rw [fn_drop h, hb]; rfl
/-- The rest of a line's faults, from a clause's number on. -/
def restJ7 (l : List Cla) (k : Nat) (c : Cla) (j : Nat) : Int × Int := fltR ((faultN c (nth c 0) j (c.nums.drop j)).bind fun _ => faultCs (l.take (k + 1)) (l.drop (k + 1)))

set_option maxHeartbeats 32000000 in
set_option maxRecDepth 100000 in
theorem rfault_any (x : Raw) (u : Value) (w : World) (hu : ClasAt w x u) :
    Calls Tryd.prog 30 #[.agg (rawV x u)] w fun e w' => e = .returned (.tuple #[.int .i64 (fltR (faultR x)).1, .int .i64 (fltR (faultR x)).2]) ∧ Below w.heap.size w w' := by
  obtain ⟨o, cap, rfl, hc1, hc2⟩ := NSl.slice hu
  obtain ⟨n, hn⟩ : ∃ n, n = x.clauses.length := ⟨_, rfl⟩
  have HN : Hid (n = x.clauses.length) := hn
  rw [← hn] at hu hc1 ⊢
  have HU : Hid (ClasAt w x (.slice o n cap)) := hu
  unfold maxLen at hc2
  obtain ⟨F, hF⟩ : ∃ F, F = fltR (faultR x) := ⟨_, rfl⟩
  rw [← hF]
  have b1 : (w.alloc (.cells (rawV x (.slice o n cap)) 51)).heap[w.heap.size]? = some (.cells (rawV x (.slice o n cap)) 51 (0, 0)) := heap_new _ _ _ rfl
  have B0 : Hid (Below w.heap.size w (w.alloc (.cells (rawV x (.slice o n cap)) 51))) := (Below.refl _ _).alloc (Nat.le_refl _) _
  have f2 := (raw_f b1).2.2.1
  have MU : Hid (∀ (c : Cla) (v : Value), (∃ o n m, v = .slice o n m) → ∀ W, Calls Tryd.prog 52 #[.agg (claV c v)] W fun x w' => x = .returned (.int .i64 (mustN c : Int)) ∧ Below W.heap.size W w') := fun c v hv W => must_any c v hv W
  have MO : Hid (∀ (t : List UInt8) (k : Nat) W, Calls Tryd.prog 53 #[.string ⟨t.toArray⟩, .int .i64 (k : Int)] W fun e w' => e = .returned (.int .i64 (mostN t k)) ∧ w' = W) := most_any
  clear hu hn
  by_cases hp0 : x.prio.n < 0
  · have hpb : (decide (x.prio.n < 0) || decide (65535 < x.prio.n)) = true := by simp [hp0]
    have hp0' : decide (x.prio.n < 0) = true := by simpa using hp0
    clear hp0
    have lp : ∀ u : Later (w.alloc (.cells (rawV x (.slice o n cap)) 51)), u.world.cell? ⟨w.heap.size, 3, none⟩ = some (.int .i64 x.prio.pos) := later_cell7 b1 rfl
    have HE : Hid (F = (10, x.prio.pos)) := by rw [hF]; exact flt_prio hpb
    have ne1 := Later.ne (w.alloc (.cells (rawV x (.slice o n cap)) 51))
    clear hF b1 hpb
    go_enter Tryd.func30, Tryd.ntmps30
    go_wp2_with fail
    refine wp_region_later (by kernel_rfl) (by kernel_rfl) ?_
    repeat go_big_quiet_step (fail)
    refine wpQuiet_nil ?_
    rintro w' ⟨v, rfl⟩
    go_wp2_with fail
    go_ret2
    rw [HE.out]
    exact ⟨rfl, B0.out.trans (v.below.mono B0.out.size)⟩
  by_cases hp1 : 65535 < x.prio.n
  · have hpb : (decide (x.prio.n < 0) || decide (65535 < x.prio.n)) = true := by simp [hp1]
    have hp0' : decide (x.prio.n < 0) = false := by simpa using hp0
    have hp1' : decide (65535 < x.prio.n) = true := by simpa using hp1
    clear hp0 hp1
    have lp : ∀ u : Later (w.alloc (.cells (rawV x (.slice o n cap)) 51)), u.world.cell? ⟨w.heap.size, 3, none⟩ = some (.int .i64 x.prio.pos) := later_cell7 b1 rfl
    have HE : Hid (F = (10, x.prio.pos)) := by rw [hF]; exact flt_prio hpb
    have ne1 := Later.ne (w.alloc (.cells (rawV x (.slice o n cap)) 51))
    clear hF b1 hpb
    go_enter Tryd.func30, Tryd.ntmps30
    go_wp2_with fail
    refine wp_region_later (by kernel_rfl) (by kernel_rfl) ?_
    repeat go_big_quiet_step (fail)
    refine wpQuiet_nil ?_
    rintro w' ⟨v, rfl⟩
    go_wp2_with fail
    go_ret2
    rw [HE.out]
    exact ⟨rfl, B0.out.trans (v.below.mono B0.out.size)⟩
  have HF0 : Hid (F = fltR (faultCs [] x.clauses)) := by rw [hF]; exact flt_cs (by simp; omega)
  have hp0' : decide (x.prio.n < 0) = false := by simpa using hp0
  have hp1' : decide (65535 < x.prio.n) = false := by simpa using hp1
  have B1 : Hid ((w.alloc (.cells (rawV x (.slice o n cap)) 51)).heap[w.heap.size]? = some (.cells (rawV x (.slice o n cap)) 51 (0, 0))) := b1
  clear hp0 hp1 hF b1
  go_enter Tryd.func30, Tryd.ntmps30
  go_wp2_with fail
  clear f2 hp0' hp1'
  go_loopw [4] (fun i wr => ∃ k : Nat, k ≤ n ∧ i = .int .i64 (k : Int) ∧ Hid (F = fltR (faultCs (x.clauses.take k) (x.clauses.drop k))) ∧ wr.heap[w.heap.size]? = some (.cells (rawV x (.slice o n cap)) 51 (0, 0)) ∧ Below w.heap.size w wr) (fun i _ => n - (intOf i).toNat)
  case atStart => exact ⟨0, Nat.zero_le _, rfl, HF0, B1.out, B0.out⟩
  case round =>
    clear B1 B0 HF0
    obtain ⟨k, hk, rfl, HK, hr1, hb⟩ := hrel
    have R1 : Hid (wr.heap[w.heap.size]? = some (.cells (rawV x (.slice o n cap)) 51 (0, 0))) := hr1
    have HB : Hid (Below w.heap.size w wr) := hb
    have f4 := (raw_f R1.out).2.2.2.1
    clear hr1 hb
    by_cases hlt : k < n
    · have hlt' : (k : Int) < (n : Int) := by omega
      obtain ⟨g, off, cur, ty, fr, c, u', rfl, hg0, hc, hCk, hcl⟩ := NSl.at HU.out k hlt
      have K1 : Hid (wr.heap[g]? = some (.cells cur ty fr)) := (HB.out.block g (Array.getElem?_eq_some_iff.1 hg0).1).trans hg0
      have H1 : Hid (∀ i, i < 5 → cur[off + k * 5 + i]? = (claV c u')[i]?) := hc
      have HCK : Hid (x.clauses[k]? = some c) := hCk
      obtain ⟨o1, cap1, rfl, hn1, hn2⟩ := GSl.slice hcl
      obtain ⟨n1, hnn⟩ : ∃ n1, n1 = c.nums.length := ⟨_, rfl⟩
      have HN1 : Hid (n1 = c.nums.length) := hnn
      rw [← hnn] at hcl hn1 H1
      have HCL : Hid (FigsAt w c (.slice o1 n1 cap1)) := hcl
      unfold maxLen at hn2
      have HKN : Hid (k < n) := hlt
      have MC : Hid (∀ W, Calls Tryd.prog 52 #[.agg (claV c (.slice o1 n1 cap1))] W fun x w' => x = .returned (.int .i64 (mustN c : Int)) ∧ Below W.heap.size W w') := fun W => MU.out c _ ⟨_, _, _, rfl⟩ W
      obtain ⟨W1, hW1⟩ : ∃ W1, W1 = wr.alloc (.cells (claV c (.slice o1 n1 cap1)) 54) := ⟨_, rfl⟩
      have q5 : W1.heap[wr.heap.size]? = some (.cells (claV c (.slice o1 n1 cap1)) 54 (0, 0)) := by rw [hW1]; exact heap_new _ _ _ rfl
      have Q1 : Hid (W1.heap[w.heap.size]? = some (.cells (rawV x (.slice (some ⟨g, off, none⟩) n cap)) 51 (0, 0))) := by rw [hW1]; exact heap_past _ _ _ _ R1.out
      have BW1 : Hid (Below w.heap.size w W1) := by rw [hW1]; exact HB.out.alloc HB.out.size _
      have l2 : ∀ u : Later W1, u.world.cell? ⟨wr.heap.size, 2, none⟩ = some (.slice o1 n1 cap1) := later_cell7 q5 rfl
      have hGw : w.heap.size < wr.heap.size := (Array.getElem?_eq_some_iff.1 R1.out).1
      have HGW : Hid (w.heap.size < wr.heap.size) := hGw
      clear hg0 hc hCk hcl hnn hlt hGw
      go_wp2_with (first
        | (refine wl_loadE (E := ClaE) ClaOk rfl _ rfl g (off + k * 5) rfl cur ty fr (claV c (.slice o1 n1 cap1)) rfl K1.out H1.out ?_)
        | (refine wl_storeE (E := ClaE) ClaOk rfl _ _ rfl wr.heap.size (claV c (.slice o1 n1 cap1)) (cla_fits7 _ _ _ _) rfl rfl _ (heap_new _ _ _ rfl) rfl _ (setRow_new _ _ _ _ _ rfl) ?_))
      rw [← hW1]
      have ne1 := Later.ne W1
      clear hW1 f4 R1 HB K1 H1
      obtain ⟨m, hm⟩ : ∃ m : Int, m = (mustN c : Int) := ⟨_, rfl⟩
      rw [← hm] at MC
      obtain ⟨G, hG⟩ : ∃ G, G = wr.heap.size := ⟨_, rfl⟩
      rw [← hG] at q5 l2 HGW ⊢
      clear hG
      by_cases hm0 : mustN c = 0
      · have HE : Hid (F = (8, c.pos)) := by rw [HK.out]; exact cs_many HCK.out (by simp [hm0])
        have hm0' : (m == 0) = true := by rw [hm, hm0]; rfl
        clear hm0 hm
        refine wp_region_later (by kernel_rfl) (by kernel_rfl) ?_
        refine qlE (E := ClaE) ClaOk rfl _ rfl G 0 rfl _ _ _ (claV c (.slice o1 n1 cap1)) rfl (later_block q5) (own_cells _ _) ?_
        simp only [Act.put, List.setIfInBounds_toArray, List.set_cons_succ, List.set_cons_zero]
        go_big_quiet_want; go_big_quiet_op
        refine ⟨_, fun u => Calls.later_of (MC.out u.world), ?_⟩
        go_big_quiet_on
        repeat go_big_quiet_step (fail)
        refine wpQuiet_nil ?_
        rintro w' ⟨v, rfl⟩
        have r5 : v.world.heap[G]? = some (.cells (claV c (.slice o1 n1 cap1)) 54 (0, 0)) := later_block q5 _ ⟨v, rfl⟩
        have r1 : v.world.heap[w.heap.size]? = some (.cells (rawV x (.slice (some ⟨g, off, none⟩) n cap)) 51 (0, 0)) := later_block Q1.out _ ⟨v, rfl⟩
        have BV : Hid (Below w.heap.size w v.world) := BW1.out.trans (v.below.mono BW1.out.size)
        obtain ⟨W2, hW2⟩ : ∃ W2, W2 = v.world := ⟨_, rfl⟩
        rw [← hW2] at r5 r1 BV ⊢
        clear hW2 l2 ne1 q5 Q1 BW1
        have l1 : ∀ u : Later W2, u.world.cell? ⟨G, 1, none⟩ = some (.int .i64 c.pos) := later_cell7 r5 rfl
        have ne1 := Later.ne W2
        clear r5 r1
        go_wp2_with fail
        refine wp_region_later (by kernel_rfl) (by kernel_rfl) ?_
        repeat go_big_quiet_step (fail)
        refine wpQuiet_nil ?_
        rintro w' ⟨v2, rfl⟩
        go_wp2_with fail
        go_ret2
        rw [HE.out]
        exact ⟨rfl, BV.out.trans (v2.below.mono BV.out.size)⟩
      have hm0' : (m == 0) = false := by rw [hm]; simp; omega
      by_cases hml : n1 = mustN c
      · have HMU : Hid ((mustN c == 0 || c.nums.length != mustN c) = false) := by
          show _ = _
          rw [← HN1.out, hml]
          simp [hm0]
        have hml' : ((n1 : Int) != m) = false := by rw [hm, hml]; simp
        have HML : Hid (n1 = mustN c) := hml
        clear hm0 hm hml
        refine wp_region_later (by kernel_rfl) (by kernel_rfl) ?_
        refine qlE (E := ClaE) ClaOk rfl _ rfl G 0 rfl _ _ _ (claV c (.slice o1 n1 cap1)) rfl (later_block q5) (own_cells _ _) ?_
        simp only [Act.put, List.setIfInBounds_toArray, List.set_cons_succ, List.set_cons_zero]
        go_big_quiet_want; go_big_quiet_op
        refine ⟨_, fun u => Calls.later_of (MC.out u.world), ?_⟩
        go_big_quiet_on
        repeat go_big_quiet_step (fail)
        refine qlE (E := ClaE) ClaOk rfl _ rfl G 0 rfl _ _ _ (claV c (.slice o1 n1 cap1)) rfl (later_block q5) (own_cells _ _) ?_
        simp only [Act.put, List.setIfInBounds_toArray, List.set_cons_succ, List.set_cons_zero]
        go_big_quiet_want; go_big_quiet_op
        refine ⟨_, fun u => Calls.later_of (MC.out u.world), ?_⟩
        go_big_quiet_on
        repeat go_big_quiet_step (fail)
        refine wpQuiet_nil ?_
        rintro w' ⟨v, rfl⟩
        have r5 : v.world.heap[G]? = some (.cells (claV c (.slice o1 n1 cap1)) 54 (0, 0)) := later_block q5 _ ⟨v, rfl⟩
        have r1 : v.world.heap[w.heap.size]? = some (.cells (rawV x (.slice (some ⟨g, off, none⟩) n cap)) 51 (0, 0)) := later_block Q1.out _ ⟨v, rfl⟩
        have BV : Hid (Below w.heap.size w v.world) := BW1.out.trans (v.below.mono BW1.out.size)
        obtain ⟨W2, hW2⟩ : ∃ W2, W2 = v.world := ⟨_, rfl⟩
        rw [← hW2] at r5 r1 BV ⊢
        clear hW2 l2 ne1 q5 Q1 BW1
        have R5 : Hid (W2.heap[G]? = some (.cells (claV c (.slice o1 n1 cap1)) 54 (0, 0))) := r5
        have R1 : Hid (W2.heap[w.heap.size]? = some (.cells (rawV x (.slice (some ⟨g, off, none⟩) n cap)) 51 (0, 0))) := r1
        clear r5 r1 hm0' hml' MC
        go_wp2_with fail
        go_loopw [6] (fun i wq => ∃ q : Nat, q ≤ k ∧ i = .int .i64 (q : Int) ∧ Hid ((x.clauses.take q).any (fun d => d.word == c.word) = false) ∧ wq.heap[w.heap.size]? = some (.cells (rawV x (.slice (some ⟨g, off, none⟩) n cap)) 51 (0, 0)) ∧ wq.heap[G]? = some (.cells (claV c (.slice o1 n1 cap1)) 54 (0, 0)) ∧ Below w.heap.size w wq) (fun i _ => k - (intOf i).toNat)
        case atStart => exact ⟨0, Nat.zero_le _, rfl, rfl, R1.out, R5.out, BV.out⟩
        case round =>
          clear R1 R5 BV
          obtain ⟨q, hq, rfl, HQ, r1, r5, hb⟩ := hrel
          have BV : Hid (Below w.heap.size w wr) := hb
          clear hb
          by_cases hqk : q < k
          · have hqk' : (q : Int) < (k : Int) := by omega
            have hqn' : (q : Int) < (n : Int) := by have := HKN.out; omega
            have hqn : q < n := by have := HKN.out; omega
            obtain ⟨g', off', cur, ty, fr, d, u', e0, hg, hc, hCq, hcq⟩ := NSl.at (NSl.below figs_below HU.out BV.out) q hqn
            simp only [Option.some.injEq, Addr.mk.injEq, and_true] at e0
            obtain ⟨rfl, rfl⟩ := e0
            have l4 : ∀ u : Later wr, u.world.cell? ⟨w.heap.size, 4, none⟩ = some (.slice (some ⟨g, off, none⟩) n cap) := later_cell7 r1 rfl
            have l0 : ∀ u : Later wr, u.world.cell? ⟨G, 0, none⟩ = some (.string ⟨c.word.toArray⟩) := later_cell7 r5 rfl
            have lq : ∀ u : Later wr, u.world.cell? ⟨g, off + q * 5, none⟩ = some (.string ⟨d.word.toArray⟩) := later_cell7 hg (hc 0 (by decide))
            have HT := any_take_succ hCq (fun d => d.word == c.word)
            rw [HQ.out, Bool.false_or] at HT
            have HTT : Hid ((x.clauses.take (q + 1)).any (fun d => d.word == c.word) = (d.word == c.word)) := HT
            have ne1 := Later.ne wr
            have L1 : Hid (∀ v : Later wr, v.world.heap[w.heap.size]? = some (.cells (rawV x (.slice (some ⟨g, off, none⟩) n cap)) 51 (0, 0)) ∧ v.world.heap[G]? = some (.cells (claV c (.slice o1 n1 cap1)) 54 (0, 0)) ∧ Below w.heap.size w v.world) := fun v => ⟨later_block r1 _ ⟨v, rfl⟩, later_block r5 _ ⟨v, rfl⟩, BV.out.trans (v.below.mono BV.out.size)⟩
            have HQK : Hid (q < k) := hqk
            clear hg hc hCq hcq HT r1 r5 hqn hqk
            cases hw : (d.word == c.word) with
            | true =>
              have HE : Hid (F = (9, c.pos)) := by
                show _ = _
                rw [HK.out]
                refine cs_twice HCK.out HMU.out ?_
                have h1 := HTT.out
                rw [hw] at h1
                obtain ⟨z, hz, hz2⟩ := List.any_eq_true.1 h1
                refine List.any_eq_true.2 ⟨z, ?_, hz2⟩
                have hle : q + 1 ≤ k := HQK.out
                have : x.clauses.take (q + 1) = (x.clauses.take k).take (q + 1) := by rw [List.take_take, Nat.min_eq_left hle]
                rw [this] at hz
                exact List.mem_of_mem_take hz
              go_wp2_with fail
              refine wp_region_later (by kernel_rfl) (by kernel_rfl) ?_
              repeat go_big_quiet_step (fail)
              refine wpQuiet_nil ?_
              rintro w' ⟨v, rfl⟩
              obtain ⟨-, r5, bv⟩ := L1.out v
              obtain ⟨W3, hW3⟩ : ∃ W3, W3 = v.world := ⟨_, rfl⟩
              rw [← hW3] at r5 bv ⊢
              have BV3 : Hid (Below w.heap.size w W3) := bv
              clear hW3 l4 l0 lq ne1 bv L1
              have l1 : ∀ u : Later W3, u.world.cell? ⟨G, 1, none⟩ = some (.int .i64 c.pos) := later_cell7 r5 rfl
              have ne1 := Later.ne W3
              clear r5
              go_wp2_with fail
              refine wp_region_later (by kernel_rfl) (by kernel_rfl) ?_
              repeat go_big_quiet_step (fail)
              refine wpQuiet_nil ?_
              rintro w' ⟨v2, rfl⟩
              go_wp2_with fail
              go_ret2
              rw [HE.out]
              exact ⟨rfl, BV3.out.trans (v2.below.mono BV3.out.size)⟩
            | false =>
              rw [hw] at HTT
              go_wp2_with fail
              refine wp_region_later (by kernel_rfl) (by kernel_rfl) ?_
              repeat go_big_quiet_step (fail)
              refine wpQuiet_nil ?_
              rintro w' ⟨v, rfl⟩
              clear l4 l0 lq
              go_wp2_with fail
              go_roundw
              case rel =>
                have := HQK.out
                exact ⟨q + 1, by omega, by go_num, HTT, L1.out v⟩
              case measure =>
                have := HQK.out
                simp [intOf]; omega
          · obtain rfl : q = k := by omega
            have hqk' : ¬ (q : Int) < (q : Int) := by omega
            have HJ0 : Hid (F = restJ7 x.clauses q c 0) := by
              show _ = _
              rw [HK.out]
              exact cs_nums HCK.out HMU.out HQ.out
            have R1 : Hid (wr.heap[w.heap.size]? = some (.cells (rawV x (.slice (some ⟨g, off, none⟩) n cap)) 51 (0, 0))) := r1
            have R5 : Hid (wr.heap[G]? = some (.cells (claV c (.slice o1 n1 cap1)) 54 (0, 0))) := r5
            clear r1 r5 hqk HQ
            go_wp2_with fail
            go_loopw [7] (fun i wq => ∃ j : Nat, j ≤ n1 ∧ i = .int .i64 (j : Int) ∧ Hid (F = restJ7 x.clauses q c j) ∧ wq.heap[w.heap.size]? = some (.cells (rawV x (.slice (some ⟨g, off, none⟩) n cap)) 51 (0, 0)) ∧ wq.heap[G]? = some (.cells (claV c (.slice o1 n1 cap1)) 54 (0, 0)) ∧ Below w.heap.size w wq) (fun i _ => n1 - (intOf i).toNat)
            case atStart => exact ⟨0, Nat.zero_le _, rfl, HJ0, R1.out, R5.out, BV.out⟩
            case round =>
              clear R1 R5 BV HJ0
              obtain ⟨j, hj, rfl, HJ, r1, r5, hb⟩ := hrel
              have BV : Hid (Below w.heap.size w wr) := hb
              have q2 := (cla_f r5).2.2.1
              clear hb
              by_cases hjn : j < n1
              · have hjn' : (j : Int) < (n1 : Int) := by omega
                obtain ⟨g1, off1, cur, ty, fr, f, e0, hg, hc, hFj⟩ := (GSl.below HCL.out BV.out).at j hjn
                subst e0
                have l0 : ∀ u : Later wr, u.world.cell? ⟨G, 0, none⟩ = some (.string ⟨c.word.toArray⟩) := later_cell7 r5 rfl
                have l2 : ∀ u : Later wr, u.world.cell? ⟨G, 2, none⟩ = some (.slice (some ⟨g1, off1, none⟩) n1 cap1) := later_cell7 r5 rfl
                have l4 : ∀ u : Later wr, u.world.cell? ⟨G, 4, none⟩ = some (.bool c.dash) := later_cell7 r5 rfl
                have lf : ∀ u : Later wr, u.world.cell? ⟨g1, off1 + j * 2, none⟩ = some (.int .i64 f.n) := later_cell7 hg (hc 0 (by decide))
                have LF : Hid (∀ u : Later wr, u.world.heap[g1]? = some (.cells cur ty fr)) := fun v => later_block hg _ ⟨v, rfl⟩
                have HC1 : Hid (cur[off1 + j * 2 + 1]? = some (.int .i64 f.pos)) := hc 1 (by decide)
                have L1 : Hid (∀ v : Later wr, v.world.heap[w.heap.size]? = some (.cells (rawV x (.slice (some ⟨g, off, none⟩) n cap)) 51 (0, 0)) ∧ v.world.heap[G]? = some (.cells (claV c (.slice (some ⟨g1, off1, none⟩) n1 cap1)) 54 (0, 0)) ∧ Below w.heap.size w v.world) := fun v => ⟨later_block r1 _ ⟨v, rfl⟩, later_block r5 _ ⟨v, rfl⟩, BV.out.trans (v.below.mono BV.out.size)⟩
                have ME : Hid (∀ W, Calls Tryd.prog 53 #[.string ⟨c.word.toArray⟩, .int .i64 (j : Int)] W fun e w' => e = .returned (.int .i64 (mostN c.word j)) ∧ w' = W) := fun W => MO.out c.word j W
                have ne1 := Later.ne wr
                have HFJ : Hid (c.nums[j]? = some f) := hFj
                have YES : Hid ((decide (f.n < 0) || decide (mostN c.word j < f.n) || (c.dash && isPortW c.word && j == 1 && decide (f.n < nth c 0))) = true → F = (10, f.pos)) := fun h => by rw [HJ.out]; exact fn_bad HFJ.out h _
                have NO : Hid ((decide (f.n < 0) || decide (mostN c.word j < f.n) || (c.dash && isPortW c.word && j == 1 && decide (f.n < nth c 0))) = false → F = restJ7 x.clauses q c (j + 1)) := fun h => by rw [HJ.out]; exact fn_good HFJ.out h _
                have HJN : Hid (j < n1) := hjn
                have HWG : Hid (∀ u : Later wr, u.world.heap[g1]? = some (.cells cur ty fr)) := LF
                clear r1 hjn hFj HJ
                obtain ⟨hi, hhi⟩ : ∃ hi, hi = mostN c.word j := ⟨_, rfl⟩
                rw [← hhi] at YES NO ME
                clear hhi
                clear r5 hg hc
                by_cases hf0 : f.n < 0
                · have HE : Hid (F = (10, f.pos)) := YES.out (by simp [hf0])
                  have hf0' : decide (f.n < 0) = true := by simpa using hf0
                  clear hf0
                  go_wp2_with fail
                  clear q2
                  refine wp_region_later (by kernel_rfl) (by kernel_rfl) ?_
                  repeat go_big_quiet_step (fail)
                  refine wpQuiet_nil ?_
                  rintro w' ⟨v, rfl⟩
                  have r5 := (L1.out v).2.1
                  have bv := (L1.out v).2.2
                  have rg := LF.out v
                  obtain ⟨W3, hW3⟩ : ∃ W3, W3 = v.world := ⟨_, rfl⟩
                  rw [← hW3] at r5 bv rg ⊢
                  have BV3 : Hid (Below w.heap.size w W3) := bv
                  clear hW3 l4 l0 l2 lf ne1 bv L1
                  have l2 : ∀ u : Later W3, u.world.cell? ⟨G, 2, none⟩ = some (.slice (some ⟨g1, off1, none⟩) n1 cap1) := later_cell7 r5 rfl
                  have lp : ∀ u : Later W3, u.world.cell? ⟨g1, off1 + j * 2 + 1, none⟩ = some (.int .i64 f.pos) := later_cell7 rg HC1.out
                  have ne1 := Later.ne W3
                  clear r5 rg
                  go_wp2_with fail
                  refine wp_region_later (by kernel_rfl) (by kernel_rfl) ?_
                  repeat go_big_quiet_step (fail)
                  refine wpQuiet_nil ?_
                  rintro w' ⟨v2, rfl⟩
                  go_wp2_with fail
                  go_ret2
                  rw [HE.out]
                  exact ⟨rfl, BV3.out.trans (v2.below.mono BV3.out.size)⟩
                have hf0' : decide (f.n < 0) = false := by simpa using hf0
                by_cases hf1 : hi < f.n
                · have HE : Hid (F = (10, f.pos)) := YES.out (by simp [hf1])
                  have hf1' : decide (hi < f.n) = true := by simpa using hf1
                  clear hf0 hf1
                  go_wp2_with fail
                  clear q2
                  refine wp_region_later (by kernel_rfl) (by kernel_rfl) ?_
                  repeat go_big_quiet_step (fail)
                  go_big_quiet_want; go_big_quiet_op
                  refine ⟨_, fun u => Calls.later_same (ME.out u.world), ?_⟩
                  go_big_quiet_on
                  repeat go_big_quiet_step (fail)
                  refine wpQuiet_nil ?_
                  rintro w' ⟨v, rfl⟩
                  have r5 := (L1.out v).2.1
                  have bv := (L1.out v).2.2
                  have rg := LF.out v
                  obtain ⟨W3, hW3⟩ : ∃ W3, W3 = v.world := ⟨_, rfl⟩
                  rw [← hW3] at r5 bv rg ⊢
                  have BV3 : Hid (Below w.heap.size w W3) := bv
                  clear hW3 l4 l0 l2 lf ne1 bv L1
                  have l2 : ∀ u : Later W3, u.world.cell? ⟨G, 2, none⟩ = some (.slice (some ⟨g1, off1, none⟩) n1 cap1) := later_cell7 r5 rfl
                  have lp : ∀ u : Later W3, u.world.cell? ⟨g1, off1 + j * 2 + 1, none⟩ = some (.int .i64 f.pos) := later_cell7 rg HC1.out
                  have ne1 := Later.ne W3
                  clear r5 rg
                  go_wp2_with fail
                  refine wp_region_later (by kernel_rfl) (by kernel_rfl) ?_
                  repeat go_big_quiet_step (fail)
                  refine wpQuiet_nil ?_
                  rintro w' ⟨v2, rfl⟩
                  go_wp2_with fail
                  go_ret2
                  rw [HE.out]
                  exact ⟨rfl, BV3.out.trans (v2.below.mono BV3.out.size)⟩
                have hf1' : decide (hi < f.n) = false := by simpa using hf1
                have HNO : Hid ((c.dash && isPortW c.word && j == 1 && decide (f.n < nth c 0)) = false → F = restJ7 x.clauses q c (j + 1)) := fun h => NO.out (by rw [h, hf0', hf1']; rfl)
                have HYE : Hid ((c.dash && isPortW c.word && j == 1 && decide (f.n < nth c 0)) = true → F = (10, f.pos)) := fun h => YES.out (by rw [h, Bool.or_true])
                clear hf0 hf1 YES NO
                cases hd : c.dash with
                | false =>
                  have HE : Hid (F = restJ7 x.clauses q c (j + 1)) := HNO.out (by rw [hd]; rfl)
                  rw [hd] at l4
                  clear hd
                  go_wp2_with fail
                  clear q2
                  refine wp_region_later (by kernel_rfl) (by kernel_rfl) ?_
                  repeat go_big_quiet_step (fail)
                  go_big_quiet_want; go_big_quiet_op
                  refine ⟨_, fun u => Calls.later_same (ME.out u.world), ?_⟩
                  go_big_quiet_on
                  repeat go_big_quiet_step (fail)
                  refine wpQuiet_nil ?_
                  rintro w' ⟨v, rfl⟩
                  clear l4 l0 l2 lf
                  go_wp2_with fail
                  go_roundw
                  case rel =>
                    have := HJN.out
                    exact ⟨j + 1, by omega, by go_num, HE, L1.out v⟩
                  case measure =>
                    have := HJN.out
                    simp [intOf]; omega
                | true =>
                  rw [hd] at l4
                  by_cases hws : c.word = wSport ∨ c.word = wDport
                  · have hpw : isPortW c.word = true := by rcases hws with h | h <;> rw [h] <;> decide
                    have HN2 : Hid (n1 = 2) := by
                      show _ = _
                      rw [HML.out, mustN_port hpw, hd]
                      rfl
                    by_cases hj1 : j = 1
                    · subst hj1
                      obtain ⟨g2, off2, cur2, ty2, fr2, f0, e2, hg2, hc2', hF0⟩ := (GSl.below HCL.out BV.out).at 0 (by omega)
                      simp only [Option.some.injEq, Addr.mk.injEq, and_true] at e2
                      obtain ⟨rfl, rfl⟩ := e2
                      have lz : ∀ u : Later wr, u.world.cell? ⟨g1, off1, none⟩ = some (.int .i64 f0.n) := later_cell7 hg2 (by have := hc2' 0 (by decide); rwa [show off1 + 0 * FigE.size + 0 = off1 by simp] at this)
                      have hn0 := nth_q hF0
                      rw [hn0] at HNO HYE
                      have hz0 : (0 : Int) < (n1 : Int) := by omega
                      have hz1 : (1 : Int) < (n1 : Int) := by omega
                      clear hg2 hc2' hF0 hn0
                      by_cases hff : f.n < f0.n
                      · have HE : Hid (F = (10, f.pos)) := HYE.out (by rw [hd, hpw]; simpa using hff)
                        have hff' : decide (f.n < f0.n) = true := by simpa using hff
                        clear hff hpw hd HN2
                        rcases hws with hws | hws
                        · rw [hws] at l0 ME
                          unfold wSport at l0 ME
                          clear hws
                          go_wp2_with fail
                          clear q2
                          refine wp_region_later (by kernel_rfl) (by kernel_rfl) ?_
                          repeat go_big_quiet_step (fail)
                          go_big_quiet_want; go_big_quiet_op
                          refine ⟨_, fun u => Calls.later_same (ME.out u.world), ?_⟩
                          go_big_quiet_on
                          repeat go_big_quiet_step (fail)
                          refine wpQuiet_nil ?_
                          rintro w' ⟨v, rfl⟩
                          have r5 := (L1.out v).2.1
                          have bv := (L1.out v).2.2
                          have rg := LF.out v
                          obtain ⟨W3, hW3⟩ : ∃ W3, W3 = v.world := ⟨_, rfl⟩
                          rw [← hW3] at r5 bv rg ⊢
                          have BV3 : Hid (Below w.heap.size w W3) := bv
                          clear hW3 l4 l0 l2 lf ne1 bv L1
                          have l2 : ∀ u : Later W3, u.world.cell? ⟨G, 2, none⟩ = some (.slice (some ⟨g1, off1, none⟩) n1 cap1) := later_cell7 r5 rfl
                          have lp : ∀ u : Later W3, u.world.cell? ⟨g1, off1 + 1 * 2 + 1, none⟩ = some (.int .i64 f.pos) := later_cell7 rg HC1.out
                          have ne1 := Later.ne W3
                          clear r5 rg
                          go_wp2_with fail
                          refine wp_region_later (by kernel_rfl) (by kernel_rfl) ?_
                          repeat go_big_quiet_step (fail)
                          refine wpQuiet_nil ?_
                          rintro w' ⟨v2, rfl⟩
                          go_wp2_with fail
                          go_ret2
                          rw [HE.out]
                          exact ⟨rfl, BV3.out.trans (v2.below.mono BV3.out.size)⟩
                        · rw [hws] at l0 ME
                          unfold wDport at l0 ME
                          clear hws
                          go_wp2_with fail
                          clear q2
                          refine wp_region_later (by kernel_rfl) (by kernel_rfl) ?_
                          repeat go_big_quiet_step (fail)
                          go_big_quiet_want; go_big_quiet_op
                          refine ⟨_, fun u => Calls.later_same (ME.out u.world), ?_⟩
                          go_big_quiet_on
                          repeat go_big_quiet_step (fail)
                          refine wpQuiet_nil ?_
                          rintro w' ⟨v, rfl⟩
                          have r5 := (L1.out v).2.1
                          have bv := (L1.out v).2.2
                          have rg := LF.out v
                          obtain ⟨W3, hW3⟩ : ∃ W3, W3 = v.world := ⟨_, rfl⟩
                          rw [← hW3] at r5 bv rg ⊢
                          have BV3 : Hid (Below w.heap.size w W3) := bv
                          clear hW3 l4 l0 l2 lf ne1 bv L1
                          have l2 : ∀ u : Later W3, u.world.cell? ⟨G, 2, none⟩ = some (.slice (some ⟨g1, off1, none⟩) n1 cap1) := later_cell7 r5 rfl
                          have lp : ∀ u : Later W3, u.world.cell? ⟨g1, off1 + 1 * 2 + 1, none⟩ = some (.int .i64 f.pos) := later_cell7 rg HC1.out
                          have ne1 := Later.ne W3
                          clear r5 rg
                          go_wp2_with fail
                          refine wp_region_later (by kernel_rfl) (by kernel_rfl) ?_
                          repeat go_big_quiet_step (fail)
                          refine wpQuiet_nil ?_
                          rintro w' ⟨v2, rfl⟩
                          go_wp2_with fail
                          go_ret2
                          rw [HE.out]
                          exact ⟨rfl, BV3.out.trans (v2.below.mono BV3.out.size)⟩
                      · have HE : Hid (F = restJ7 x.clauses q c (1 + 1)) := HNO.out (by rw [hd, hpw]; simpa using hff)
                        have hff' : decide (f.n < f0.n) = false := by simpa using hff
                        clear hff hpw hd HN2
                        rcases hws with hws | hws
                        · rw [hws] at l0 ME
                          unfold wSport at l0 ME
                          clear hws
                          go_wp2_with fail
                          clear q2
                          refine wp_region_later (by kernel_rfl) (by kernel_rfl) ?_
                          repeat go_big_quiet_step (fail)
                          go_big_quiet_want; go_big_quiet_op
                          refine ⟨_, fun u => Calls.later_same (ME.out u.world), ?_⟩
                          go_big_quiet_on
                          repeat go_big_quiet_step (fail)
                          refine wpQuiet_nil ?_
                          rintro w' ⟨v, rfl⟩
                          clear l4 l0 l2 lf
                          go_wp2_with fail
                          go_roundw
                          case rel =>
                            have := HJN.out
                            exact ⟨1 + 1, by omega, by go_num, HE, L1.out v⟩
                          case measure =>
                            have := HJN.out
                            simp [intOf]; omega
                        · rw [hws] at l0 ME
                          unfold wDport at l0 ME
                          clear hws
                          go_wp2_with fail
                          clear q2
                          refine wp_region_later (by kernel_rfl) (by kernel_rfl) ?_
                          repeat go_big_quiet_step (fail)
                          go_big_quiet_want; go_big_quiet_op
                          refine ⟨_, fun u => Calls.later_same (ME.out u.world), ?_⟩
                          go_big_quiet_on
                          repeat go_big_quiet_step (fail)
                          refine wpQuiet_nil ?_
                          rintro w' ⟨v, rfl⟩
                          clear l4 l0 l2 lf
                          go_wp2_with fail
                          go_roundw
                          case rel =>
                            have := HJN.out
                            exact ⟨1 + 1, by omega, by go_num, HE, L1.out v⟩
                          case measure =>
                            have := HJN.out
                            simp [intOf]; omega
                    · have HE : Hid (F = restJ7 x.clauses q c (j + 1)) := HNO.out (by rw [hd, hpw]; simp [hj1])
                      have hj1' : ((j : Int) == 1) = false := by simp; omega
                      clear hj1 hpw hd HN2
                      rcases hws with hws | hws
                      · rw [hws] at l0 ME
                        unfold wSport at l0 ME
                        clear hws
                        go_wp2_with fail
                        clear q2
                        refine wp_region_later (by kernel_rfl) (by kernel_rfl) ?_
                        repeat go_big_quiet_step (fail)
                        go_big_quiet_want; go_big_quiet_op
                        refine ⟨_, fun u => Calls.later_same (ME.out u.world), ?_⟩
                        go_big_quiet_on
                        repeat go_big_quiet_step (fail)
                        refine wpQuiet_nil ?_
                        rintro w' ⟨v, rfl⟩
                        clear l4 l0 l2 lf
                        go_wp2_with fail
                        go_roundw
                        case rel =>
                          have := HJN.out
                          exact ⟨j + 1, by omega, by go_num, HE, L1.out v⟩
                        case measure =>
                          have := HJN.out
                          simp [intOf]; omega
                      · rw [hws] at l0 ME
                        unfold wDport at l0 ME
                        clear hws
                        go_wp2_with fail
                        clear q2
                        refine wp_region_later (by kernel_rfl) (by kernel_rfl) ?_
                        repeat go_big_quiet_step (fail)
                        go_big_quiet_want; go_big_quiet_op
                        refine ⟨_, fun u => Calls.later_same (ME.out u.world), ?_⟩
                        go_big_quiet_on
                        repeat go_big_quiet_step (fail)
                        refine wpQuiet_nil ?_
                        rintro w' ⟨v, rfl⟩
                        clear l4 l0 l2 lf
                        go_wp2_with fail
                        go_roundw
                        case rel =>
                          have := HJN.out
                          exact ⟨j + 1, by omega, by go_num, HE, L1.out v⟩
                        case measure =>
                          have := HJN.out
                          simp [intOf]; omega
                  · have hs1 : (c.word == [115, 112, 111, 114, 116]) = false := by rw [beq_eq_false_iff_ne]; exact fun h => hws (.inl h)
                    have hs2 : (c.word == [100, 112, 111, 114, 116]) = false := by rw [beq_eq_false_iff_ne]; exact fun h => hws (.inr h)
                    have HE : Hid (F = restJ7 x.clauses q c (j + 1)) := HNO.out (by rw [show isPortW c.word = false by unfold isPortW wSport wDport; rw [hs1, hs2]; rfl]; simp)
                    clear hws hd
                    go_wp2_with fail
                    clear q2
                    refine wp_region_later (by kernel_rfl) (by kernel_rfl) ?_
                    repeat go_big_quiet_step (fail)
                    go_big_quiet_want; go_big_quiet_op
                    refine ⟨_, fun u => Calls.later_same (ME.out u.world), ?_⟩
                    go_big_quiet_on
                    repeat go_big_quiet_step (fail)
                    refine wpQuiet_nil ?_
                    rintro w' ⟨v, rfl⟩
                    clear l4 l0 l2 lf
                    go_wp2_with fail
                    go_roundw
                    case rel =>
                      have := HJN.out
                      exact ⟨j + 1, by omega, by go_num, HE, L1.out v⟩
                    case measure =>
                      have := HJN.out
                      simp [intOf]; omega
              · have hjn' : ¬ (j : Int) < (n1 : Int) := by omega
                have HE : Hid (F = fltR (faultCs (x.clauses.take (q + 1)) (x.clauses.drop (q + 1)))) := by
                  show _ = _
                  rw [HJ.out]
                  unfold restJ7
                  rw [List.drop_of_length_le (by have := HN1.out; omega)]
                  rfl
                have L1 : Hid (wr.heap[w.heap.size]? = some (.cells (rawV x (.slice (some ⟨g, off, none⟩) n cap)) 51 (0, 0))) := r1
                clear hjn r1 r5 HJ
                go_wp2_with fail
                go_roundw
                case rel =>
                  have := HKN.out
                  exact ⟨q + 1, by omega, by go_num, HE, L1.out, BV.out⟩
                case measure =>
                  have := HKN.out
                  simp [intOf]; omega
      · have HE : Hid (F = (8, c.pos)) := by
          show _ = _
          rw [HK.out]
          refine cs_many HCK.out ?_
          rw [← HN1.out]
          simp [hml]
        have hml' : ((n1 : Int) != m) = true := by rw [hm]; simp; omega
        clear hm0 hm hml
        refine wp_region_later (by kernel_rfl) (by kernel_rfl) ?_
        refine qlE (E := ClaE) ClaOk rfl _ rfl G 0 rfl _ _ _ (claV c (.slice o1 n1 cap1)) rfl (later_block q5) (own_cells _ _) ?_
        simp only [Act.put, List.setIfInBounds_toArray, List.set_cons_succ, List.set_cons_zero]
        go_big_quiet_want; go_big_quiet_op
        refine ⟨_, fun u => Calls.later_of (MC.out u.world), ?_⟩
        go_big_quiet_on
        repeat go_big_quiet_step (fail)
        refine qlE (E := ClaE) ClaOk rfl _ rfl G 0 rfl _ _ _ (claV c (.slice o1 n1 cap1)) rfl (later_block q5) (own_cells _ _) ?_
        simp only [Act.put, List.setIfInBounds_toArray, List.set_cons_succ, List.set_cons_zero]
        go_big_quiet_want; go_big_quiet_op
        refine ⟨_, fun u => Calls.later_of (MC.out u.world), ?_⟩
        go_big_quiet_on
        repeat go_big_quiet_step (fail)
        refine wpQuiet_nil ?_
        rintro w' ⟨v, rfl⟩
        have r5 : v.world.heap[G]? = some (.cells (claV c (.slice o1 n1 cap1)) 54 (0, 0)) := later_block q5 _ ⟨v, rfl⟩
        have r1 : v.world.heap[w.heap.size]? = some (.cells (rawV x (.slice (some ⟨g, off, none⟩) n cap)) 51 (0, 0)) := later_block Q1.out _ ⟨v, rfl⟩
        have BV : Hid (Below w.heap.size w v.world) := BW1.out.trans (v.below.mono BW1.out.size)
        obtain ⟨W2, hW2⟩ : ∃ W2, W2 = v.world := ⟨_, rfl⟩
        rw [← hW2] at r5 r1 BV ⊢
        clear hW2 l2 ne1 q5 Q1 BW1
        have l1 : ∀ u : Later W2, u.world.cell? ⟨G, 1, none⟩ = some (.int .i64 c.pos) := later_cell7 r5 rfl
        have ne1 := Later.ne W2
        clear r5 r1
        go_wp2_with fail
        refine wp_region_later (by kernel_rfl) (by kernel_rfl) ?_
        repeat go_big_quiet_step (fail)
        refine wpQuiet_nil ?_
        rintro w' ⟨v2, rfl⟩
        go_wp2_with fail
        go_ret2
        rw [HE.out]
        exact ⟨rfl, BV.out.trans (v2.below.mono BV.out.size)⟩
    · have hlt' : ¬ (k : Int) < (n : Int) := by omega
      have HE : Hid (F = (0, 0)) := by
        show _ = _
        rw [HK.out, List.drop_of_length_le (by have := HN.out; omega)]
        rfl
      clear hlt
      go_wp2_with fail
      go_ret2
      rw [HE.out]
      exact ⟨rfl, HB.out⟩
end Go.Proofs.YtfamnloobmdhdaaDoor
