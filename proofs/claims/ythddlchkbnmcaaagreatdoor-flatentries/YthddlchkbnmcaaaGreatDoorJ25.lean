import Derived.Test.YthddlchkbnmcaaaGreatDoorJ21
import Derived.Test.YthddlchkbnmcaaaGreatDoorJ6
namespace Go.Proofs.YthddlchkbnmcaaaGreatDoor
open Go Go.RowKit
set_option maxRecDepth 20000

theorem raw_f {w : World} {b : Nat} {x : Raw} {u : Value} {ty : TypeId} {fr : Nat × Nat} (h : w.heap[b]? = some (.cells (rawV x u) ty fr)) :
    w.cell? ⟨b, 0, none⟩ = some (.int .i64 x.pos) ∧ w.cell? ⟨b, 1, none⟩ = some (.bool x.dflt) ∧ w.cell? ⟨b, 2, none⟩ = some (.int .i64 x.prio.n) ∧ w.cell? ⟨b, 4, none⟩ = some u ∧ w.cell? ⟨b, 5, none⟩ = some (.bool x.drop) ∧ w.cell? ⟨b, 6, none⟩ = some (.int .i64 x.port.n) := by
  refine ⟨?_, ?_, ?_, ?_, ?_, ?_⟩ <;> (rw [cell_of_row _ _ _ _ _ _ h]; rfl)
theorem raw_prio (x : Raw) (u : Value) : ∀ q, q < 2 → (rawV x u)[2 + q]? = (figV x.prio)[q]? := fun q hq => by
  rcases (show q = 0 ∨ q = 1 by omega) with rfl | rfl <;> rfl
theorem raw_port (x : Raw) (u : Value) : ∀ q, q < 2 → (rawV x u)[6 + q]? = (figV x.port)[q]? := fun q hq => by
  rcases (show q = 0 ∨ q = 1 by omega) with rfl | rfl <;> rfl
theorem ruleF_zero (x : Raw) : outF x.prio 0 65535 = ruleF x 0 := by
  unfold outF ruleF
  rw [List.take_zero]
  rfl
theorem NSl.take {α : Type} {E : El} {row : α → Value → Array Value} {R : World → α → Value → Prop} {w : World} {o : Option Addr} {n cap : Nat} {C : List α} (h : NSl E row R w (.slice o n cap) C) {k : Nat} (hk : k ≤ n) : NSl E row R w (.slice o k cap) (C.take k) := by
  obtain ⟨P, h1, ⟨o', cap', h2, h3, h4, h5⟩, h6⟩ := h
  simp only [Value.slice.injEq] at h2
  obtain ⟨rfl, rfl, rfl⟩ := h2
  have hl : (P.take k).length = k := by rw [List.length_take]; omega
  refine ⟨P.take k, by rw [List.map_take, h1], ⟨o, cap, by rw [hl], by rw [hl]; omega, h4, fun i hi => ?_⟩, fun p hp => h6 p (List.mem_of_mem_take hp)⟩
  rw [hl] at hi
  obtain ⟨g, off, cur, t, fr, e1, e2, e3⟩ := h5 i (by omega)
  refine ⟨g, off, cur, t, fr, e1, e2, fun j hj => ?_⟩
  rw [List.getElem_take]
  exact e3 j hj
theorem slice_to (b off n cap k : Nat) (hk : k ≤ cap) (_hm : cap ≤ 2 ^ 63 - 1) (W : World) : (Instr.sliceAt 90 (.slice (some ⟨b, off, none⟩) n cap) none (some (.int .i64 (k : Int))) none).run Tryz.prog W = .ok (.slice (some ⟨b, off, none⟩) k cap) W := by
  simp [go_sem, Tryz.underlying90]
  omega

set_option maxHeartbeats 4000000 in
theorem action7_any (x : Raw) (u : Value) (hu : ∃ o n m, u = .slice o n m) (w : World) :
    Calls Tryz.prog 75 #[.agg (rawV x u)] w fun e w' => e = .returned (.int .i64 (actOf x)) ∧ Below w.heap.size w w' := by
  obtain ⟨o, n, m, rfl⟩ := hu
  obtain ⟨-, -, -, -, c5, c6⟩ := raw_f (heap_new w (.cells (rawV x (.slice o n m)) 92) _ rfl)
  have HB : Hid (Below w.heap.size w (w.alloc (.cells (rawV x (.slice o n m)) 92))) := (Below.refl _ _).alloc (Nat.le_refl _) _
  cases hd : x.drop with
  | true =>
    rw [show actOf x = 0 by unfold actOf; rw [hd]; rfl]
    rw [hd] at c5
    go_enter Tryz.func75, Tryz.ntmps75
    go_wp2_with fail
    go_ret
    exact ⟨rfl, HB.out⟩
  | false =>
    rw [show actOf x = x.port.n by unfold actOf; rw [hd]; rfl]
    rw [hd] at c5
    go_enter Tryz.func75, Tryz.ntmps75
    go_wp2_with fail
    go_ret
    exact ⟨rfl, HB.out⟩

set_option maxHeartbeats 4000000 in
theorem actionF_any (x : Raw) (u : Value) (hu : ∃ o n m, u = .slice o n m) (w : World) :
    Calls Tryz.prog 48 #[.agg (rawV x u)] w fun e w' => e = .returned (.agg (fltV (actF x))) ∧ Below w.heap.size w w' := by
  obtain ⟨o, n, m, rfl⟩ := hu
  have OU : Hid (∀ (f : Fig) (low high : Int) W, Calls Tryz.prog 73 #[.agg (figV f), .int .i64 low, .int .i64 high] W fun x w' => x = .returned (.agg (fltV (outF f low high))) ∧ Below W.heap.size W w') := outside_any
  have b1 : Hid (((w.alloc (.cells (rawV x (.slice o n m)) 92)).alloc (.cells #[.int .i64 0, .int .i64 0] 94)).heap[w.heap.size]? = some (.cells (rawV x (.slice o n m)) 92 (0, 0))) := heap_past _ _ _ _ (heap_new _ _ _ rfl)
  have b2 : Hid (((w.alloc (.cells (rawV x (.slice o n m)) 92)).alloc (.cells #[.int .i64 0, .int .i64 0] 94)).heap[w.heap.size + 1]? = some (.cells #[.int .i64 0, .int .i64 0] 94 (0, 0))) := heap_new _ _ _ (by simp)
  have B0 : Hid (Below w.heap.size w ((w.alloc (.cells (rawV x (.slice o n m)) 92)).alloc (.cells #[.int .i64 0, .int .i64 0] 94))) := below2 _ _ _
  have c5 := (raw_f b1.out).2.2.2.2.1
  cases hd : x.drop with
  | true =>
    rw [show actF x = (0, 0) by unfold actF; rw [hd]; rfl]
    rw [hd] at c5
    go_enter Tryz.func48, Tryz.ntmps48
    go_wp2_with (first
      | (refine wl_storeE (E := FltE) FltOk rfl _ _ rfl (w.heap.size + 1) (fltV (0, 0)) (flt_fits _) rfl rfl _ b2.out rfl _ rfl ?_))
    refine retE (E := FltE) FltOk rfl rfl (w.heap.size + 1) rfl (fltV (0, 0)) rfl (setRow_heap _ _ _ _ _ _ b2.out) ?_
    exact ⟨rfl, below_setRow B0.out (by omega) _⟩
  | false =>
    rw [show actF x = outF x.port 1 99 by unfold actF outF; rw [hd]; rfl]
    rw [hd] at c5
    go_enter Tryz.func48, Tryz.ntmps48
    go_wp2_with (first
      | (refine wl_loadE (E := FigE) FigOk rfl _ rfl w.heap.size 6 rfl _ _ _ (figV x.port) rfl b1.out (raw_port x _) ?_))
    refine (OU.out _ _ _ _).mono ?_
    rintro e w1 ⟨rfl, hb1⟩
    have k2 : Hid (w1.heap[w.heap.size + 1]? = some (.cells #[.int .i64 0, .int .i64 0] 94 (0, 0))) := (hb1.block _ (by simp)).trans b2.out
    have B1 : Hid (Below w.heap.size w w1) := B0.out.trans (hb1.mono (by simp; omega))
    clear hb1
    go_wp2_with (first
      | (refine wl_storeE (E := FltE) FltOk rfl _ _ rfl (w.heap.size + 1) (fltV (outF x.port 1 99)) (flt_fits _) rfl rfl _ k2.out rfl _ rfl ?_))
    refine retE (E := FltE) FltOk rfl rfl (w.heap.size + 1) rfl (fltV (outF x.port 1 99)) rfl (setRow_heap _ _ _ _ _ _ k2.out) ?_
    exact ⟨rfl, below_setRow B1.out (by omega) _⟩

set_option maxHeartbeats 8000000 in
theorem ruleF_any (x : Raw) (u : Value) (w : World) (hu : ClasAt w x u) :
    Calls Tryz.prog 47 #[.agg (rawV x u)] w fun e w' => e = .returned (.agg (fltV (lineF x))) ∧ Below w.heap.size w w' := by
  have OU : Hid (∀ (f : Fig) (low high : Int) W, Calls Tryz.prog 73 #[.agg (figV f), .int .i64 low, .int .i64 high] W fun x w' => x = .returned (.agg (fltV (outF f low high))) ∧ Below W.heap.size W w') := outside_any
  have CL : Hid (∀ (had : List Cla) (c : Cla) (u va : Value) W, FigsAt W c u → NSl ClaE claV FigsAt W va had → Calls Tryz.prog 74 #[.agg (claV c u), va] W fun x w' => x = .returned (.agg (fltV (claF had c))) ∧ Below W.heap.size W w') := clauseF_any
  obtain ⟨o, cap, rfl, hc1, hc2⟩ := NSl.slice hu
  obtain ⟨n, hn⟩ : ∃ n, n = x.clauses.length := ⟨_, rfl⟩
  have HN : Hid (n = x.clauses.length) := hn
  rw [← hn] at hu hc1 ⊢
  have HU : Hid (ClasAt w x (.slice o n cap)) := hu
  unfold maxLen at hc2
  have b1 : Hid (((w.alloc (.cells (rawV x (.slice o n cap)) 92)).alloc (.cells #[.int .i64 0, .int .i64 0] 94)).heap[w.heap.size]? = some (.cells (rawV x (.slice o n cap)) 92 (0, 0))) := heap_past _ _ _ _ (heap_new _ _ _ rfl)
  have b2 : Hid (((w.alloc (.cells (rawV x (.slice o n cap)) 92)).alloc (.cells #[.int .i64 0, .int .i64 0] 94)).heap[w.heap.size + 1]? = some (.cells #[.int .i64 0, .int .i64 0] 94 (0, 0))) := heap_new _ _ _ (by simp)
  have B0 : Hid (Below w.heap.size w ((w.alloc (.cells (rawV x (.slice o n cap)) 92)).alloc (.cells #[.int .i64 0, .int .i64 0] 94))) := below2 _ _ _
  have c1 := (raw_f b1.out).2.1
  clear hu hn
  cases hd : x.dflt with
  | true =>
    rw [show lineF x = (0, 0) by unfold lineF; rw [hd]; rfl]
    rw [hd] at c1
    go_enter Tryz.func47, Tryz.ntmps47
    go_wp2_with (first
      | (refine wl_storeE (E := FltE) FltOk rfl _ _ rfl (w.heap.size + 1) (fltV (0, 0)) (flt_fits _) rfl rfl _ b2.out rfl _ rfl ?_))
    refine retE (E := FltE) FltOk rfl rfl (w.heap.size + 1) rfl (fltV (0, 0)) rfl (setRow_heap _ _ _ _ _ _ b2.out) ?_
    exact ⟨rfl, below_setRow B0.out (by omega) _⟩
  | false =>
    have HL : Hid (lineF x = ruleF x n) := by
      show _ = _
      rw [HN.out, ruleF_all]
      unfold lineF
      rw [hd]; rfl
    rw [hd] at c1
    have HD : Hid (x.dflt = false) := hd
    have ST : Hid (∀ k, (ruleF x k).1 ≠ 0 → ruleF x n = ruleF x k) := fun k h => by rw [HN.out]; exact ruleF_stays h
    have NX : Hid (∀ (k : Nat) c, x.clauses[k]? = some c → (ruleF x k).1 = 0 → claF (x.clauses.take k) c = ruleF x (k + 1)) := fun k c h1 h2 => (ruleF_next h1 h2).symm
    clear hd
    go_enter Tryz.func47, Tryz.ntmps47
    go_wp2_with (first
      | (refine wl_loadE (E := FigE) FigOk rfl _ rfl w.heap.size 2 rfl _ _ _ (figV x.prio) rfl b1.out (raw_prio x _) ?_))
    refine (OU.out _ _ _ _).mono ?_
    rintro e w1 ⟨rfl, hb1⟩
    rw [ruleF_zero]
    have k1 : Hid (w1.heap[w.heap.size]? = some (.cells (rawV x (.slice o n cap)) 92 (0, 0))) := (hb1.block _ (by simp; omega)).trans b1.out
    have k2 : Hid (w1.heap[w.heap.size + 1]? = some (.cells #[.int .i64 0, .int .i64 0] 94 (0, 0))) := (hb1.block _ (by simp)).trans b2.out
    have B1 : Hid (Below w.heap.size w w1) := B0.out.trans (hb1.mono (by simp; omega))
    clear hb1 b1 b2 B0 c1
    obtain ⟨G, hG⟩ : ∃ G, G = w1.heap.size := ⟨_, rfl⟩
    have hGw : w.heap.size + 1 < G := by rw [hG]; exact (Array.getElem?_eq_some_iff.1 k2.out).1
    have HG : Hid (G = w1.heap.size) := hG
    have KA : Hid ((w1.alloc (.cells (fltV (ruleF x 0)) 94)).heap[G]? = some (.cells (fltV (ruleF x 0)) 94 (0, 0)) ∧ (w1.alloc (.cells (fltV (ruleF x 0)) 94)).heap[w.heap.size]? = some (.cells (rawV x (.slice o n cap)) 92 (0, 0)) ∧ (w1.alloc (.cells (fltV (ruleF x 0)) 94)).heap[w.heap.size + 1]? = some (.cells #[.int .i64 0, .int .i64 0] 94 (0, 0)) ∧ Below w.heap.size w (w1.alloc (.cells (fltV (ruleF x 0)) 94))) := ⟨heap_new _ _ _ hG, heap_past _ _ _ _ k1.out, heap_past _ _ _ _ k2.out, B1.out.alloc B1.out.size _⟩
    go_wp2_with (first
      | (refine wl_storeE (E := FltE) FltOk rfl _ _ rfl w1.heap.size (fltV (ruleF x 0)) (flt_fits _) rfl rfl _ (heap_new _ _ _ rfl) rfl _ (setRow_new _ _ _ _ _ rfl) ?_))
    rw [← hG]
    clear hG
    go_loopw [4] (fun i wr => ∃ k : Nat, k ≤ n ∧ i = .int .i64 (k : Int) ∧ wr.heap[G]? = some (.cells (fltV (ruleF x k)) 94 (0, 0)) ∧ wr.heap[w.heap.size]? = some (.cells (rawV x (.slice o n cap)) 92 (0, 0)) ∧ wr.heap[w.heap.size + 1]? = some (.cells #[.int .i64 0, .int .i64 0] 94 (0, 0)) ∧ Below w.heap.size w wr) (fun i _ => n - (intOf i).toNat)
    case atStart => exact ⟨0, Nat.zero_le _, rfl, KA.out.1, KA.out.2.1, KA.out.2.2.1, KA.out.2.2.2⟩
    case round =>
      clear KA k1 k2 B1
      obtain ⟨k, hk, rfl, hr0, hr1, hr2, hb⟩ := hrel
      have R0 : Hid (wr.heap[G]? = some (.cells (fltV (ruleF x k)) 94 (0, 0))) := hr0
      have R1 : Hid (wr.heap[w.heap.size]? = some (.cells (rawV x (.slice o n cap)) 92 (0, 0))) := hr1
      have R2 : Hid (wr.heap[w.heap.size + 1]? = some (.cells #[.int .i64 0, .int .i64 0] 94 (0, 0))) := hr2
      have HB : Hid (Below w.heap.size w wr) := hb
      have f0 : wr.cell? ⟨G, 0, none⟩ = some (.int .i64 (ruleF x k).1) := by rw [cell_of_row _ _ _ _ _ _ R0.out]; rfl
      have f4 := (raw_f R1.out).2.2.2.1
      clear hr0 hr1 hr2 hb
      have fin : ∀ F, ruleF x n = F → wr.heap[G]? = some (.cells (fltV F) 94 (0, 0)) → lineF x = F := fun F h _ => by rw [HL.out]; exact h
      by_cases hlt : k < n
      · have hlt' : (k : Int) < (n : Int) := by omega
        by_cases hz : (ruleF x k).1 = 0
        · have hz' : ((ruleF x k).1 == 0) = true := by simp [hz]
          obtain ⟨g, off, cur, ty, fr, c, u', rfl, hg, hc, hCk, hcl⟩ := NSl.at (NSl.below figs_below HU.out HB.out) k hlt
          have HNX := NX.out k c hCk hz
          have CC : Hid (∀ W, Below wr.heap.size wr W → Calls Tryz.prog 74 #[.agg (claV c u'), .slice (some ⟨g, off, none⟩) k cap] W fun x1 w' => x1 = .returned (.agg (fltV (ruleF x (k + 1)))) ∧ Below W.heap.size W w') := fun W hbW => by
            have := CL.out (x.clauses.take k) c u' (.slice (some ⟨g, off, none⟩) k cap) W (figs_below _ _ _ _ hbW hcl) (NSl.below figs_below (NSl.take (NSl.below figs_below HU.out HB.out) (by omega)) hbW)
            rwa [HNX] at this
          have hsl := fun W => slice_to g off n cap k (by omega) hc2 W
          have k1 : wr.heap[g]? = some (.cells cur ty fr) := hg
          have H1 : Hid (∀ i, i < 5 → cur[off + k * 5 + i]? = (claV c u')[i]?) := hc
          have l4 : ∀ u : Later wr, u.world.cell? ⟨w.heap.size, 4, none⟩ = some (.slice (some ⟨g, off, none⟩) n cap) := later_cell7 R1.out rfl
          clear hg hc hCk hcl HNX fin
          go_wp2_with fail
          have ne1 := Later.ne wr
          refine wp_region_latertail 10 (by kernel_rfl) (by kernel_rfl) ?_
          simp only [List.take_succ_cons, List.take_zero, List.drop_succ_cons, List.drop_zero]
          go_big_quiet_step (rfl)
          go_big_quiet_step (rfl)
          go_big_quiet_step (rfl)
          go_big_quiet_step (rfl)
          refine qlE (E := ClaE) ClaOk rfl _ rfl g (off + k * 5) rfl cur ty fr (claV c u') rfl (later_block k1) H1.out ?_
          simp only [Act.put, List.setIfInBounds_toArray, List.set_cons_succ, List.set_cons_zero]
          go_big_quiet_step (rfl)
          go_big_quiet_step (rfl)
          go_big_quiet_step (rfl)
          go_big_quiet_step (rfl)
          go_big_quiet_want; go_big_quiet_op
          refine ⟨_, fun u => Calls.later_of (CC.out u.world u.below), ?_⟩
          go_big_quiet_on
          refine wpQuiet_nil ?_
          rintro w' ⟨v, rfl⟩
          have q0 : Hid (v.world.heap[G]? = some (.cells (fltV (ruleF x k)) 94 (0, 0))) := later_block R0.out _ ⟨v, rfl⟩
          have q1 : Hid (v.world.heap[w.heap.size]? = some (.cells (rawV x (.slice (some ⟨g, off, none⟩) n cap)) 92 (0, 0))) := later_block R1.out _ ⟨v, rfl⟩
          have q2 : Hid (v.world.heap[w.heap.size + 1]? = some (.cells #[.int .i64 0, .int .i64 0] 94 (0, 0))) := later_block R2.out _ ⟨v, rfl⟩
          have BV : Hid (Below w.heap.size w v.world) := HB.out.trans (v.below.mono HB.out.size)
          obtain ⟨W2, hW2⟩ : ∃ W2, W2 = v.world := ⟨_, rfl⟩
          rw [← hW2] at q0 q1 q2 BV ⊢
          clear hW2 l4 ne1 k1 R0 R1 R2 f0 f4
          go_wp2_with (first
            | (refine wl_storeE (E := FltE) FltOk rfl _ _ rfl G (fltV (ruleF x (k + 1))) (flt_fits _) rfl rfl _ q0.out rfl _ rfl ?_))
          go_roundw
          case rel => exact ⟨k + 1, by omega, by go_num, setRow_heap _ _ _ _ _ _ q0.out, (setRow_other _ _ _ _ (by omega)).trans q1.out, (setRow_other _ _ _ _ (by omega)).trans q2.out, below_setRow BV.out (by omega) _⟩
          case measure => simp [intOf]; omega
        · have hz' : ((ruleF x k).1 == 0) = false := by simp [hz]
          have hfin : Hid (lineF x = ruleF x k) := by rw [HL.out]; exact ST.out k hz
          clear hz fin
          go_wp2_with (first
            | (refine wl_loadE (E := FltE) FltOk rfl _ rfl G 0 rfl _ _ _ (fltV (ruleF x k)) rfl R0.out (own_cells _ _) ?_)
            | (refine wl_storeE (E := FltE) FltOk rfl _ _ rfl (w.heap.size + 1) (fltV (ruleF x k)) (flt_fits _) rfl rfl _ R2.out rfl _ rfl ?_))
          refine retE (E := FltE) FltOk rfl rfl (w.heap.size + 1) rfl (fltV (ruleF x k)) rfl (setRow_heap _ _ _ _ _ _ R2.out) ?_
          exact ⟨by rw [hfin.out], below_setRow HB.out (by omega) _⟩
      · have hlt' : ¬ (k : Int) < (n : Int) := by omega
        have hlt2 : decide ((k : Int) < (n : Int)) = false := by simp; omega
        obtain rfl : k = n := by omega
        clear hlt fin
        go_wp2_with (first
          | (refine wl_loadE (E := FltE) FltOk rfl _ rfl G 0 rfl _ _ _ (fltV (ruleF x k)) rfl R0.out (own_cells _ _) ?_)
          | (refine wl_storeE (E := FltE) FltOk rfl _ _ rfl (w.heap.size + 1) (fltV (ruleF x k)) (flt_fits _) rfl rfl _ R2.out rfl _ rfl ?_))
        refine retE (E := FltE) FltOk rfl rfl (w.heap.size + 1) rfl (fltV (ruleF x k)) rfl (setRow_heap _ _ _ _ _ _ R2.out) ?_
        exact ⟨by rw [HL.out], below_setRow HB.out (by omega) _⟩
end Go.Proofs.YthddlchkbnmcaaaGreatDoor
namespace Go.Proofs.YthddlchkbnmcaaaGreatDoor
open Go Go.RowKit
set_option maxRecDepth 20000

theorem nth_q {c : Cla} {k : Nat} {f : Fig} (h : c.nums[k]? = some f) : nth c k = f.n := by unfold nth; rw [List.getD_eq_getElem?_getD, h]; rfl
def preN (c : Cla) : Nat → Int
  | 0 => 0
  | k + 1 => preN c k * 256 + nth c k
theorem preN_bd (c : Cla) (h : ∀ k, k < 4 → 0 ≤ nth c k ∧ nth c k ≤ 255) : ∀ k, k ≤ 4 → 0 ≤ preN c k ∧ preN c k < 256 ^ k
  | 0, _ => by simp [preN]
  | k + 1, hk => by
    have := preN_bd c h k (by omega)
    have h2 := h k (by omega)
    simp only [preN, Int.pow_succ]
    omega
theorem preN_four (c : Cla) : preN c 4 = (preC c).1 := by
  unfold preC
  simp only [preN]
  omega
theorem slice_four (b off n cap : Nat) (hk : 4 ≤ cap) (_hm : cap ≤ 2 ^ 63 - 1) (W : World) : (Instr.sliceAt 127 (.slice (some ⟨b, off, none⟩) n cap) none (some (.int .i64 4)) none).run Tryz.prog W = .ok (.slice (some ⟨b, off, none⟩) 4 cap) W := by
  simp [go_sem, Tryz.underlying127]
  omega
set_option maxHeartbeats 4000000 in
theorem prefix_any (c : Cla) (u : Value) (w : World) (hu : FigsAt w c u) (hl : c.nums.length = if c.slash then 5 else 4) (hb4 : ∀ k, k < 4 → 0 ≤ nth c k ∧ nth c k ≤ 255) :
    Calls Tryz.prog 76 #[.agg (claV c u)] w fun x w' => x = .returned (.tuple #[.int .u32 (preC c).1, .int .i64 (preC c).2]) ∧ Below w.heap.size w w' := by
  obtain ⟨o, cap, rfl, hc1, hc2⟩ := GSl.slice hu
  obtain ⟨n, hn⟩ : ∃ n, n = c.nums.length := ⟨_, rfl⟩
  have h4n : 4 ≤ n := by rw [hn, hl]; split <;> omega
  rw [← hn] at hu hc1 hl ⊢
  have HU : Hid (FigsAt w c (.slice o n cap)) := hu
  obtain ⟨g, off, cur, ty, fr, f0, rfl, hg, -, -⟩ := hu.at 0 (by omega)
  have HG : Hid (w.heap[g]? = some (.cells cur ty fr)) := hg
  unfold maxLen at hc2
  have hsl := fun W => slice_four g off n cap (by omega) hc2 W
  have BD : Hid (∀ k, k ≤ 4 → 0 ≤ preN c k ∧ preN c k < 256 ^ k) := preN_bd c hb4
  have H4 : Hid (∀ k, k < 4 → 0 ≤ nth c k ∧ nth c k ≤ 255) := hb4
  have b1 : Hid ((w.alloc (.cells (claV c (.slice (some ⟨g, off, none⟩) n cap)) 129)).heap[w.heap.size]? = some (.cells (claV c (.slice (some ⟨g, off, none⟩) n cap)) 129 (0, 0))) := heap_new _ _ _ rfl
  have c2 := (cla_f b1.out).2.2.1
  have HE : Hid (preN c 4 = (preC c).1) := preN_four c
  have HS : Hid ((preC c).2 = if c.slash then nth c 4 else 32) := rfl
  have HNL : Hid (n = if c.slash then 5 else 4) := hl
  clear hu hg hn hb4 hl
  go_enter Tryz.func76, Tryz.ntmps76
  go_wp2_with fail
  clear c2
  go_loopw [4, 11] (fun v i wr => ∃ k : Nat, k ≤ 4 ∧ i = .int .i64 (k : Int) ∧ v = .int .u32 (preN c k) ∧ wr.heap[w.heap.size]? = some (.cells (claV c (.slice (some ⟨g, off, none⟩) n cap)) 129 (0, 0)) ∧ Below w.heap.size w wr) (fun _ i _ => 4 - (intOf i).toNat)
  case atStart => exact ⟨0, Nat.zero_le _, rfl, rfl, b1.out, (Below.refl _ _).alloc (Nat.le_refl _) _⟩
  case round =>
    clear b1
    obtain ⟨k, hk, rfl, rfl, hr1, hb⟩ := hrel
    have R1 : Hid (wr.heap[w.heap.size]? = some (.cells (claV c (.slice (some ⟨g, off, none⟩) n cap)) 129 (0, 0))) := hr1
    have HB : Hid (Below w.heap.size w wr) := hb
    clear hr1 hb
    by_cases hlt : k < 4
    · obtain ⟨g', off', cur', ty', fr', f, e0, hg, hc, hFj⟩ := HU.out.at k (by omega)
      simp only [Option.some.injEq, Addr.mk.injEq, and_true] at e0
      obtain ⟨rfl, rfl⟩ := e0
      have K1 : Hid (wr.heap[g]? = some (.cells cur' ty' fr')) := (HB.out.block g (Array.getElem?_eq_some_iff.1 hg).1).trans hg
      have H1 : Hid (∀ q, q < 2 → cur'[off + k * 2 + q]? = (figV f)[q]?) := hc
      have hnk := nth_q hFj
      have hx := H4.out k hlt
      rw [hnk] at hx
      have HST : Hid (preN c (k + 1) = preN c k * 256 + f.n) := by rw [← hnk]; exact rfl
      have hp := BD.out k (by omega)
      have hp24 : preN c k < 16777216 := by
        have : (256 : Int) ^ k ≤ 256 ^ 3 := by
          rcases (show k = 0 ∨ k = 1 ∨ k = 2 ∨ k = 3 by omega) with h | h | h | h <;> subst h <;> decide
        have h2 : (256 : Int) ^ 3 = 16777216 := by decide
        omega
      have HOR : Hid (bits .or .u32 (preN c k * 256) f.n = preN c k * 256 + f.n) := by
        have h := or_byte (preN c k) f.n hp.1 hp24 hx.1 (by omega)
        rw [show preN c k * 256 % 4294967296 = preN c k * 256 by omega, show f.n % 4294967296 = f.n by omega] at h
        exact h
      obtain ⟨pk, hpk⟩ : ∃ pk, pk = preN c k := ⟨_, rfl⟩
      rw [← hpk] at HST HOR hp24 ⊢
      have hp0 : 0 ≤ pk := by rw [hpk]; exact hp.1
      have n0 : (wr.alloc (.cells (figV f) 89)).cell? ⟨wr.heap.size, 0, none⟩ = some (.int .i64 f.n) := by rw [cell_of_row _ _ _ _ _ _ (heap_new wr (.cells (figV f) 89) _ rfl)]; rfl
      have hlt' : (k : Int) < 4 := by omega
      have hx0 := hx.1
      have hx1 : f.n < 256 := by omega
      clear hg hc hFj hnk hp hpk hx
      go_wp2_with (first
        | (refine wl_loadE (E := FigE) FigOk rfl _ rfl g (off + k * 2) rfl cur' ty' fr' (figV f) rfl K1.out H1.out ?_)
        | (refine wl_storeE (E := FigE) FigOk rfl _ _ rfl wr.heap.size (figV f) (fig_fits _) rfl rfl _ (heap_new _ _ _ rfl) rfl _ (setRow_new _ _ _ _ _ rfl) ?_))
      go_roundw
      case rel =>
        refine ⟨k + 1, by omega, by go_num, ?_, heap_past _ _ _ _ R1.out, HB.out.alloc HB.out.size _⟩
        rw [HST.out, HOR.out]
      case measure => simp [intOf]; omega
    · obtain rfl : k = 4 := by omega
      have hlt' : ¬ (4 : Int) < 4 := by omega
      have c3 := (cla_f R1.out).2.2.2.1
      cases hs : c.slash with
      | false =>
        rw [hs] at c3 HS
        have hend : ¬ (((4 : Nat) : Int) < 4) := by omega
        clear hlt
        go_wp2_with fail
        go_ret2
        refine ⟨?_, HB.out⟩
        rw [HE.out, HS.out]
        rfl
      | true =>
        rw [hs] at c3 HS HNL
        have h5 : n = 5 := HNL.out
        obtain ⟨g', off', cur', ty', fr', f, e0, hg, hc, hFj⟩ := HU.out.at 4 (by omega)
        simp only [Option.some.injEq, Addr.mk.injEq, and_true] at e0
        obtain ⟨rfl, rfl⟩ := e0
        have l2 : ∀ u : Later wr, u.world.cell? ⟨w.heap.size, 2, none⟩ = some (.slice (some ⟨g, off, none⟩) n cap) := later_cell7 R1.out rfl
        have lg : ∀ u : Later wr, u.world.cell? ⟨g, off + 8, none⟩ = some (.int .i64 f.n) := by
          have hh : wr.heap[g]? = some (.cells cur' ty' fr') := (HB.out.block g (Array.getElem?_eq_some_iff.1 hg).1).trans hg
          refine later_cell7 hh ?_
          have := hc 0 (by decide)
          exact this
        have hnk := nth_q hFj
        have hS2 : (preC c).2 = f.n := by rw [HS.out, if_pos rfl, hnk]
        have HS2 : Hid ((preC c).2 = f.n) := hS2
        subst h5
        clear hlt hg hc hFj hnk hS2
        go_wp2_with fail
        have ne1 := Later.ne wr
        refine wp_region_later (by kernel_rfl) (by kernel_rfl) ?_
        repeat go_big_quiet_step (rfl)
        refine wpQuiet_nil ?_
        rintro w' ⟨v, rfl⟩
        go_wp2_with fail
        go_ret2
        refine ⟨?_, HB.out.trans (v.below.mono HB.out.size)⟩
        rw [HE.out, HS2.out]
        rfl

set_option maxHeartbeats 4000000 in
theorem ports7_any (c : Cla) (u : Value) (w : World) (hu : FigsAt w c u) (hl : 0 < c.nums.length) :
    Calls Tryz.prog 77 #[.agg (claV c u)] w fun x w' => x = .returned (.tuple #[.int .i64 (porC c).1, .int .i64 (porC c).2]) ∧ Below w.heap.size w w' := by
  obtain ⟨o, cap, rfl, hc1, hc2⟩ := GSl.slice hu
  unfold porC
  obtain ⟨n, hn⟩ : ∃ n, n = c.nums.length := ⟨_, rfl⟩
  rw [← hn] at hu hc1 hl ⊢
  obtain ⟨g, off, cur, ty, fr, f, rfl, hg, hc, hF⟩ := hu.at 0 hl
  obtain ⟨g', off', cur', ty', fr', f', e0, hg', hc', hF'⟩ := hu.at (n - 1) (by omega)
  simp only [Option.some.injEq, Addr.mk.injEq, and_true] at e0
  obtain ⟨rfl, rfl⟩ := e0
  rw [nth_q hF, nth_q hF']
  unfold maxLen at hc2
  obtain ⟨Wa, hWa⟩ : ∃ Wa, Wa = w.alloc (.cells (claV c (.slice (some ⟨g, off, none⟩) n cap)) 129) := ⟨_, rfl⟩
  have b1 : Wa.heap[w.heap.size]? = some (.cells (claV c (.slice (some ⟨g, off, none⟩) n cap)) 129 (0, 0)) := by rw [hWa]; exact heap_new _ _ _ rfl
  have BA : Hid (Below w.heap.size w Wa) := by rw [hWa]; exact (Below.refl _ _).alloc (Nat.le_refl _) _
  have l2 : ∀ u : Later Wa, u.world.cell? ⟨w.heap.size, 2, none⟩ = some (.slice (some ⟨g, off, none⟩) n cap) := later_cell7 b1 rfl
  have lg : ∀ u : Later Wa, u.world.cell? ⟨g, off, none⟩ = some (.int .i64 f.n) := later_cell7 (by rw [hWa]; exact heap_past _ _ _ _ hg) (by
    have := hc 0 (by decide)
    rw [show off + 0 * FigE.size + 0 = off by simp] at this
    exact this)
  have lg' : ∀ u : Later Wa, u.world.cell? ⟨g, off + (n - 1) * 2, none⟩ = some (.int .i64 f'.n) := later_cell7 (by rw [hWa]; exact heap_past _ _ _ _ hg') (by
    have := hc' 0 (by decide)
    exact this)
  have hn1 : ((n : Int) - 1).toNat = n - 1 := by omega
  have hp1 : (0 : Int) ≤ (n : Int) - 1 := by omega
  have hp2 : (n : Int) - 1 < (n : Int) := by omega
  have hp0 : (0 : Int) < (n : Int) := by omega
  have hix : ∀ W, (Instr.indexAt 127 (.slice (some ⟨g, off, none⟩) n cap) (.int .i64 ((n : Int) - 1))).run Tryz.prog W = .ok (.pointer (some ⟨g, off + (n - 1) * 2, none⟩)) W := fun W => by
    simp [go_sem, Tryz.underlying127]
    omega
  clear hu hg hc hF hg' hc' hF' hn b1
  go_enter Tryz.func77, Tryz.ntmps77
  go_wp2_with fail
  rw [← hWa]
  have ne1 := Later.ne Wa
  refine wp_region_later (by kernel_rfl) (by kernel_rfl) ?_
  repeat go_big_quiet_step (rfl)
  refine wpQuiet_nil ?_
  rintro w' ⟨v, rfl⟩
  go_wp2_with fail
  go_ret2
  exact ⟨rfl, BA.out.trans (v.below.mono BA.out.size)⟩
end Go.Proofs.YthddlchkbnmcaaaGreatDoor
