import Derived.Test.YtojhckjdkafpmaaJ9
import Derived.Test.YtojhckjdkafpmaaJ10
namespace Go.Proofs.Ytojhckjdkafpmaa
open Go Go.RowKit
set_option maxRecDepth 20000

theorem cmpT_lt (a b : Int) : cmpT a b < 0 ↔ a < b := by
  unfold cmpT
  split
  · simp; assumption
  · split <;> simp <;> omega
set_option maxHeartbeats 8000000 in
theorem min_any (C : List Slt) (v : Value) (w : World) (hl : GSl SlotE slotV w v C) (hn : C.length ≤ 1000000) (hne : C ≠ []) :
    Calls Try.prog 65 #[v, .func (.func 66) #[] #[]] w fun e w' => (∃ x A D, e = .returned (.agg (slotV x)) ∧ LeastAt (fun _ => true) (·.used) C A x D) ∧ Below w.heap.size w w' := by
  have h0 : 0 < C.length := by
    cases C with
    | nil => exact absurd rfl hne
    | cons c C => simp
  obtain ⟨o, cap, rfl, hc1, hc2⟩ := GSl.slice hl
  obtain ⟨n, hn0⟩ : ∃ n, n = C.length := ⟨_, rfl⟩
  have HN : Hid (n = C.length) := hn0
  rw [← hn0] at hl hc1 hn h0 ⊢
  have HL : Hid (GSl SlotE slotV w (.slice o n cap) C) := hl
  obtain ⟨g, off, cur0, ty0, fr0, x0, rfl, hg0, hcc0, hx0⟩ := hl.at 0 h0
  have K0 : Hid (∀ W, W.heap[g]? = w.heap[g]? → (loadVar 38 ⟨g, off, none⟩).run Try.prog W = .ok (.agg (slotV x0)) W) := fun W hW => ld_row (hW.trans hg0) (fun j hj => by have h := hcc0 j hj; rw [Nat.zero_mul, Nat.add_zero] at h; exact h)
  have HX0 : Hid (C[0]? = some x0) := hx0
  have HG : Hid (g < w.heap.size) := (Array.getElem?_eq_some_iff.1 hg0).1
  have h0' : ¬ (n : Int) < 1 := by omega
  have hn1 : (0 : Int) < (n : Int) := by omega
  unfold maxLen at hc2
  have EV : Hid (∀ x y W, Calls Try.prog 66 #[.agg (slotV x), .agg (slotV y)] W fun e w' => e = .returned (.int .i64 (cmpT x.used y.used)) ∧ Below W.heap.size W w') := evict1_any
  clear hl hn0 hne hg0 hcc0 hx0
  have N1 : Hid ((w.alloc (.cells (slotV zeroS) 38)).heap[g]? = w.heap[g]?) := Below.heap_alloc _ _ _ HG.out
  go_enter Try.func65, Try.ntmps65
  go_wp2_with (first | ((with_reducible refine wl_gA rfl ?_); refine wl_allocS rfl rfl ?_; try rw [sz_alloc]) | ((with_reducible refine wl_gL _ rfl ?_); refine wl_loadS rfl _ rfl g off rfl x0 (K0.out _ N1.out) ?_) | ((with_reducible refine wl_gS _ _ rfl ?_); refine wl_storeS rfl _ _ rfl (w.heap.size + 1) x0 zeroS rfl rfl (heap_new _ _ _ (by simp)) _ (setRow_new _ _ _ _ _ (by simp)) ?_))
  go_loopw [6] (fun i wr => ∃ (k j : Nat) (x : Slt), 1 ≤ k ∧ k ≤ n ∧ i = .int .i64 (k : Int) ∧ Hid (C[j]? = some x) ∧ Hid (FoundTo (fun _ => true) (·.used) C k (j : Int)) ∧ Hid (wr.heap[w.heap.size + 1]? = some (.cells (slotV x) 38 (0, 0))) ∧ Hid (wr.heap[w.heap.size]? = some (.cells (slotV zeroS) 38 (0, 0))) ∧ Hid (Below w.heap.size w wr)) (fun i _ => n - (intOf i).toNat)
  case atStart => exact ⟨1, 0, x0, Nat.le_refl _, h0, rfl, HX0, found_first (found_nil _) HX0.out rfl, heap_new _ _ _ (by simp), heap_past _ _ _ _ (heap_new _ _ _ rfl), ((Below.refl _ _).alloc (Nat.le_refl _) _).alloc (by simp) _⟩
  case round =>
    obtain ⟨k, j, x, hk1, hk, rfl, HJ, HF, HM, HZ, HB⟩ := hrel
    by_cases hlt : k < n
    · have hlt' : (k : Int) < (n : Int) := by omega
      obtain ⟨g', off', cur, ty, fr, y, he, hg, hcc, hyk⟩ := (GSl.below HL.out HB.out).at k hlt
      simp only [Option.some.injEq, Addr.mk.injEq, and_true] at he
      obtain ⟨rfl, rfl⟩ := he
      have K1 : Hid (wr.heap[g]? = some (.cells cur ty fr)) := hg
      have H1 : Hid (∀ j, j < 36 → cur[off + k * 36 + j]? = (slotV y)[j]?) := hcc
      have HY : Hid (C[k]? = some y) := hyk
      have ne1 := Later.ne wr
      clear hg hcc hyk
      by_cases hv : y.used < x.used
      · have hd : decide (cmpT y.used x.used < 0) = true := decide_eq_true ((cmpT_lt _ _).2 hv)
        have HV : Hid (y.used < x.used) := hv
        clear hv
        go_wp2_with fail
        refine wp_region_later (by kernel_rfl) (by kernel_rfl) ?_
        go_big_quiet_step (fail)
        go_big_quiet_step (fail)
        go_big_quiet_step (fail)
        go_big_quiet_step (fail)
        refine qlE (E := SlotE) SlotOk rfl _ rfl g (off + k * 36) rfl cur ty fr (slotV y) (slotV_size y) (later_block K1.out) H1.out ?_
        simp only [Act.put, List.setIfInBounds_toArray, List.set_cons_succ, List.set_cons_zero]
        refine qlE (E := SlotE) SlotOk rfl _ rfl (w.heap.size + 1) 0 rfl _ _ _ (slotV x) (slotV_size x) (later_block HM.out) (own_cells _ _) ?_
        simp only [Act.put, List.setIfInBounds_toArray, List.set_cons_succ, List.set_cons_zero]
        go_big_quiet_want; go_big_quiet_op
        refine ⟨_, fun u => Calls.later_of (EV.out y x u.world), ?_⟩
        go_big_quiet_on
        go_big_quiet_step (fail)
        refine wpQuiet_nil ?_
        rintro w' ⟨u, rfl⟩
        have B1 : Hid (Below wr.heap.size wr u.world) := u.below
        have M1 : Hid (u.world.heap[w.heap.size + 1]? = some (.cells (slotV x) 38 (0, 0))) := later_block HM.out _ ⟨u, rfl⟩
        have K2 : Hid (u.world.heap[g]? = some (.cells cur ty fr)) := later_block K1.out _ ⟨u, rfl⟩
        go_wp2_with (first | ((with_reducible refine wl_gL _ rfl ?_); refine wl_loadS rfl _ rfl g (off + k * 36) rfl y (ld_row K2.out H1.out) ?_) | ((with_reducible refine wl_gS _ _ rfl ?_); refine wl_storeS rfl _ _ rfl (w.heap.size + 1) y x rfl rfl M1.out _ rfl ?_))
        go_roundw
        case rel =>
          refine ⟨k + 1, k, y, by omega, by omega, by go_num, HY, found_take HF.out HJ.out HY.out rfl HV.out, setRow_heap _ _ _ _ _ _ M1.out, ?_, ?_⟩
          · exact (setRow_other _ _ _ _ (by omega)).trans (later_block HZ.out _ ⟨u, rfl⟩)
          · exact below_setRow (below_step HB.out HB.out.size B1.out) (by omega) _
        case measure => simp [intOf]; omega
      · have hd : decide (cmpT y.used x.used < 0) = false := decide_eq_false (fun h => hv ((cmpT_lt _ _).1 h))
        have HV : Hid (¬ y.used < x.used) := hv
        clear hv
        go_wp2_with fail
        refine wp_region_later (by kernel_rfl) (by kernel_rfl) ?_
        go_big_quiet_step (fail)
        go_big_quiet_step (fail)
        go_big_quiet_step (fail)
        go_big_quiet_step (fail)
        refine qlE (E := SlotE) SlotOk rfl _ rfl g (off + k * 36) rfl cur ty fr (slotV y) (slotV_size y) (later_block K1.out) H1.out ?_
        simp only [Act.put, List.setIfInBounds_toArray, List.set_cons_succ, List.set_cons_zero]
        refine qlE (E := SlotE) SlotOk rfl _ rfl (w.heap.size + 1) 0 rfl _ _ _ (slotV x) (slotV_size x) (later_block HM.out) (own_cells _ _) ?_
        simp only [Act.put, List.setIfInBounds_toArray, List.set_cons_succ, List.set_cons_zero]
        go_big_quiet_want; go_big_quiet_op
        refine ⟨_, fun u => Calls.later_of (EV.out y x u.world), ?_⟩
        go_big_quiet_on
        go_big_quiet_step (fail)
        refine wpQuiet_nil ?_
        rintro w' ⟨u, rfl⟩
        go_wp2_with fail
        go_roundw
        case rel => exact ⟨k + 1, j, x, by omega, by omega, by go_num, HJ, found_stay HF.out HJ.out HY.out (by have := HV.out; omega), later_block HM.out _ ⟨u, rfl⟩, later_block HZ.out _ ⟨u, rfl⟩, below_step HB.out HB.out.size u.below⟩
        case measure => simp [intOf]; omega
    · have hlt' : ¬ (k : Int) < (n : Int) := by omega
      have HK : Hid (k = n) := by show _ = _; omega
      go_wp2_with (first | ((with_reducible refine wl_gL _ rfl ?_); refine wl_loadS rfl _ rfl (w.heap.size + 1) 0 rfl x (ld_own HM.out) ?_) | ((with_reducible refine wl_gS _ _ rfl ?_); refine wl_storeS rfl _ _ rfl w.heap.size x zeroS rfl rfl HZ.out _ rfl ?_))
      refine bodyPost_ret (v := .agg (slotV x)) (results_cell_row rfl _ _ w.heap.size 38 (slotV x) (0, 0) _ rfl (setRow_heap _ _ _ _ _ _ HZ.out) Try.underlying38 rfl (SlotOk.cellsz _ (slotV_size x))) rfl ?_
      refine ⟨?_, below_setRow HB.out (Nat.le_refl _) _⟩
      have hF := HF.out
      rw [HK.out, HN.out] at hF
      rcases found_all hF with ⟨e, _⟩ | ⟨i, z, e, _, hz, hls⟩
      · omega
      · obtain rfl : j = i := by omega
        have hj := HJ.out
        rw [hz] at hj
        cases hj
        exact ⟨_, rfl, _, _, leastF_some hls⟩
end Go.Proofs.Ytojhckjdkafpmaa
namespace Go.Proofs.Ytojhckjdkafpmaa
open Go Go.RowKit
set_option maxRecDepth 20000

/-- No two of the cache are of one epoch and cube. -/
def DistC (C : List Slt) : Prop := C.Pairwise fun x y => ¬ (x.epoch = y.epoch ∧ x.cube = y.cube)
theorem drop_one {C A D : List Slt} {x : Slt} (h : C = A ++ x :: D) (hd : DistC C) (hok : ∀ y ∈ C, OkC y.cube) : C.filter (fun y => !(eqS y x)) = A ++ D ∧ C.filter (fun y => eqS y x) = [x] := by
  subst h
  unfold DistC at hd
  rw [List.pairwise_append] at hd
  obtain ⟨_, h2, h3⟩ := hd
  rw [List.pairwise_cons] at h2
  have hx : OkC x.cube := hok x (by simp)
  have hA : ∀ y ∈ A, eqS y x = false := fun y hy => by
    rcases Bool.eq_false_or_eq_true (eqS y x) with e | e
    · have := (eqS_iff (hok y (by simp [hy])) hx).1 e
      subst this
      exact absurd ⟨rfl, rfl⟩ (h3 y hy y (by simp))
    · exact e
  have hD : ∀ y ∈ D, eqS y x = false := fun y hy => by
    rcases Bool.eq_false_or_eq_true (eqS y x) with e | e
    · have := (eqS_iff (hok y (by simp [hy])) hx).1 e
      subst this
      exact absurd ⟨rfl, rfl⟩ (h2.1 y hy)
    · exact e
  constructor
  · rw [List.filter_append, List.filter_cons, if_neg (by rw [eqS_self]; simp), List.filter_eq_self.2 (fun y hy => by rw [hA y hy]; rfl), List.filter_eq_self.2 (fun y hy => by rw [hD y hy]; rfl)]
  · rw [List.filter_append, List.filter_cons, if_pos (eqS_self x), List.filter_eq_nil_iff.2 (fun y hy => by rw [hA y hy]; simp), List.filter_eq_nil_iff.2 (fun y hy => by rw [hD y hy]; simp)]; rfl
/-- What evict does to the cache. -/
def evictT (room : Nat) (C : List Slt) : List Slt × Slt × Bool :=
  if C.length = room then match leastF (fun _ => true) (·.used) C with
    | some (A, x, D) => (A ++ D, x, true)
    | none => (C, zeroS, true)
  else (C, zeroS, false)
theorem learnT_evict {room : Nat} {C : List Slt} {s : Slt} (hr : room ≠ 0) (h : leastF (sameC s) (fun _ => 0) C = none) : learnT room C s = ((evictT room C).1 ++ [s], (evictT room C).2.1, (evictT room C).2.2, 0) := by
  unfold learnT evictT
  rw [if_neg hr, h]
  simp only
  by_cases hf : C.length = room
  · rw [if_pos hf, if_pos hf]
    cases leastF (fun _ => true) (·.used) C with
    | none => rfl
    | some r => rfl
  · rw [if_neg hf, if_neg hf]
theorem ret2S {fn : Func} {R : Ending → World → Prop} {a : Act} {w : World} {p q : Tmp} (hr : fn.results = #[.cell p 38, .tmp q]) (hd : a.defers = []) (g : Nat) (hp : a.tmps.getD p undef = .pointer (some ⟨g, 0, none⟩)) (x : Slt)
    (hg : w.heap[g]? = some (.cells (slotV x) 38 (0, 0))) (u : Value) (hu : a.tmps.getD q undef = u) (h : R (.returned (.tuple #[.agg (slotV x), u])) w) : bodyPost Try.prog fn R .ret a w := by
  refine bodyPost_ret (v := .tuple #[.agg (slotV x), u]) ?_ hd h
  rw [results_cell_tmp hr, hp, hu]
  simp [asAddr, ld_own hg]
/-- What is local to a call stays apart from the table. -/
theorem TabTo.loc {B : Nat} {w W w3 w4 : World} {g : Nat} {R : Rm} {S S' : Bks} {v1 v2 v3 : Value} {Y : Nat → Prop} (h : TabV B w g R S v1 v2 v3) (hb : Below w.heap.size w W) (ht : TabTo B W w3 g R S' v1 v2 v3) (hk : Kept Y w3 w4) (hY : ∀ k, Y k → w.heap.size ≤ k ∧ k < W.heap.size) : TabTo B w w4 g R S' v1 v2 v3 := by
  obtain ⟨u1, u2, u3, t1, t2, t3⟩ := ht
  refine ⟨u1, u2, u3, t1.kept hk fun k hk e => ?_, (Kept.pre hb t2).trans hk fun k e => .inr (hY k e).1, fun k hk => ?_⟩
  · have h1 := hY k e
    rcases t3 k hk with e' | e'
    · have := (h.foot_in k e').2; omega
    · omega
  · rcases t3 k hk with e' | e'
    · exact .inl e'
    · exact .inr (Nat.le_trans hb.size e')
theorem TabTo.block {B : Nat} {w W w3 : World} {g : Nat} {R : Rm} {S S' : Bks} {v1 v2 v3 : Value} {q : Nat} {o : Obj} (h : TabV B w g R S v1 v2 v3) (ht : TabTo B W w3 g R S' v1 v2 v3) (hq : W.heap[q]? = some o) (hq2 : w.heap.size ≤ q) : w3.heap[q]? = some o := by
  obtain ⟨u1, u2, u3, t1, t2, t3⟩ := ht
  exact t2.heap hq fun e => by have := (h.foot_in q e).2; omega
theorem kept_setRow (w : World) (q : Nat) (cs : Array Value) : Kept (isB q) w (w.setRow q cs) := ⟨rfl, rfl, rfl, by simp, fun j _ hj => setRow_other _ _ j _ hj⟩
set_option maxHeartbeats 8000000 in
theorem evict_any (B : Nat) (w : World) (g : Nat) (R : Rm) (S : Bks) (v1 v2 v3 : Value) (h : TabV B w g R S v1 v2 v3) (hn : S.c.length ≤ 1000000) (hr : R.cache ≠ 0) (hd : DistC S.c) (hok : ∀ y ∈ S.c, OkC y.cube) :
    Calls Try.prog 49 #[.pointer (some ⟨g, 0, none⟩)] w fun e w' => e = .returned (.tuple #[.agg (slotV (evictT R.cache S.c).2.1), .bool (evictT R.cache S.c).2.2]) ∧ TabTo B w w' g R { S with c := (evictT R.cache S.c).1 } v1 v2 v3 := by
  have HW : Hid (∀ W, Below w.heap.size w W → TabV B W g R S v1 v2 v3) := fun W hb => h.below hb
  have FU : Hid (∀ W, Below w.heap.size w W → Calls Try.prog 43 #[.pointer (some ⟨g, 0, none⟩), .int .i64 1] W fun e w' => e = .returned (.bool (decide (S.c.length = R.cache))) ∧ Below W.heap.size W w') := by
    intro W hb
    exact full_any B W g R S v1 v2 v3 (h.below hb) 1 (by decide)
  have B0 : Hid (Below w.heap.size w (w.alloc (.cells (slotV zeroS) 38))) := (Below.refl _ _).alloc (Nat.le_refl _) _
  by_cases hf : S.c.length = R.cache
  · have hne : S.c ≠ [] := fun e => hr (by rw [← hf, e]; rfl)
    have MI : Hid (∀ W, Below w.heap.size w W → Calls Try.prog 65 #[v1, .func (.func 66) #[] #[]] W fun e w' => (∃ x A D, e = .returned (.agg (slotV x)) ∧ LeastAt (fun _ => true) (·.used) S.c A x D) ∧ Below W.heap.size W w') := by
      intro W hb
      exact min_any S.c v1 W (h.below hb).o1.sl hn hne
    have DR : Hid (∀ (x : Slt) (q : Nat) (W : World), Below w.heap.size w W → W.heap[q]? = some (.cells (slotV x) 38 (0, 0)) → w.heap.size ≤ q → Calls Try.prog 52 #[.pointer (some ⟨g, 0, none⟩), .int .i64 1, .func (.func 67) #[] #[.pointer (some ⟨q, 0, none⟩)]] W fun e w' => ∃ u, e = .returned u ∧ SlotsAt W.heap.size w' u (S.c.filter fun y => eqS y x) ∧ TabTo B W w' g R { S with c := S.c.filter fun y => !(eqS y x) } v1 v2 v3) := by
      intro x q W hb hq hq2
      refine drop_any B W g R S v1 v2 v3 (h.below hb) 1 (by decide) hn 67 #[.pointer (some ⟨q, 0, none⟩)] (fun y => eqS y x) (fun vs W => by have hf := Try.func67; simp [go_sem]) (fun y W' hW' => ?_)
      have hne : ¬ rowX v1 q := fun e => by have := (h.o1.lt q e).2; omega
      exact evict2_any y x W' q (hW'.heap hq hne)
    have FIN : Hid (∀ (x : Slt) (A D : List Slt) (w1 w2 w4 : World), LeastAt (fun _ => true) (·.used) S.c A x D → Below w.heap.size w w1 → TabTo B w1 w2 g R { S with c := S.c.filter fun y => !(eqS y x) } v1 v2 v3 → w.heap.size < w1.heap.size → Kept (isB w.heap.size) w2 w4 → evictT R.cache S.c = (A ++ D, x, true) ∧ TabTo B w w4 g R { S with c := A ++ D } v1 v2 v3) := by
      intro x A D w1 w2 w4 hl hb ht hlt hk
      have e1 : evictT R.cache S.c = (A ++ D, x, true) := by unfold evictT; rw [if_pos hf, leastF_iff.2 hl]
      refine ⟨e1, ?_⟩
      rw [(drop_one hl.1 hd hok).1] at ht
      exact ht.loc h hb hk fun k e => by unfold isB at e; omega
    have KP : Hid (∀ (x : Slt) (q : Nat) (w1 w2 : World) (S' : Bks), w1.heap[q]? = some (.cells (slotV x) 38 (0, 0)) → w.heap.size ≤ q → TabTo B w1 w2 g R S' v1 v2 v3 → w2.heap[q]? = some (.cells (slotV x) 38 (0, 0))) := by
      intro x q w1 w2 S' hq hq2 ht
      exact ht.block h hq hq2
    have c5 : ∀ W, Below w.heap.size w W → W.cell? ⟨g, 5, none⟩ = some v1 := fun W hb => (h.below hb).f.c5
    have HD1 : decide (S.c.length = R.cache) = true := decide_eq_true hf
    rw [HD1] at FU
    clear h hd hok hf hne hr HD1 HW
    have C5 : Hid (∀ W, Below w.heap.size w W → W.cell? ⟨g, 5, none⟩ = some v1) := c5
    clear c5
    go_enter Try.func49, Try.ntmps49
    go_wp2_with (first | ((with_reducible refine wl_gA rfl ?_); refine wl_allocS rfl rfl ?_; try rw [sz_alloc]) | (go_at_call 43; refine (FU.out _ B0.out).mono ?_; rintro e w1 ⟨rfl, hb1⟩; have B1 : Hid (Below w.heap.size w w1) := below_step B0.out B0.out.size hb1; have Z1 : Hid (w1.heap[w.heap.size]? = some (.cells (slotV zeroS) 38 (0, 0))) := (hb1.block _ (by simp)).trans (heap_new _ _ _ rfl); have c5 := C5.out w1 B1.out; clear hb1))
    refine (MI.out w1 B1.out).mono ?_
    rintro e w2 ⟨⟨x, A, D, rfl, hl⟩, hb2⟩
    have HLE : Hid (LeastAt (fun _ => true) (·.used) S.c A x D) := hl
    have B2 : Hid (Below w.heap.size w w2) := below_step B1.out B1.out.size hb2
    have Z2 : Hid (w2.heap[w.heap.size]? = some (.cells (slotV zeroS) 38 (0, 0))) := (hb2.block _ (Array.getElem?_eq_some_iff.1 Z1.out).1).trans Z1.out
    clear hb2 hl c5
    have B3 : Hid (Below w.heap.size w (w2.alloc (.cells (slotV x) 38))) := B2.out.alloc B2.out.size _
    have Z3 : Hid ((w2.alloc (.cells (slotV x) 38)).heap[w.heap.size]? = some (.cells (slotV zeroS) 38 (0, 0))) := heap_past _ _ _ _ Z2.out
    have X3 : Hid ((w2.alloc (.cells (slotV x) 38)).heap[w2.heap.size]? = some (.cells (slotV x) 38 (0, 0))) := heap_new _ _ _ rfl
    have hdr := DR.out x w2.heap.size _ B3.out X3.out B2.out.size
    go_wp2_with (first | ((with_reducible refine wl_gA rfl ?_); refine wl_allocS rfl rfl ?_; try rw [sz_alloc]) | ((with_reducible refine wl_gS _ _ rfl ?_); refine wl_storeS rfl _ _ rfl w2.heap.size x zeroS rfl rfl (heap_new _ _ _ rfl) _ (setRow_new _ _ _ _ _ rfl) ?_) | (go_at_call 52; refine hdr.mono ?_; rintro e w3 ⟨u, rfl, _, ht⟩; refine of_stopS ?_))
    unfold StopS
    have X4 : Hid (w3.heap[w2.heap.size]? = some (.cells (slotV x) 38 (0, 0))) := KP.out x _ _ _ _ X3.out B2.out.size ht
    have Z4 : Hid (w3.heap[w.heap.size]? = some (.cells (slotV zeroS) 38 (0, 0))) := KP.out zeroS _ _ _ _ Z3.out (Nat.le_refl _) ht
    have F4 := FIN.out x A D _ w3 (w3.setRow w.heap.size (slotV x)) HLE.out B3.out ht (by have := B2.out.size; simp; omega) (kept_setRow _ _ _)
    have FE : Hid (evictT R.cache S.c = (A ++ D, x, true)) := F4.1
    have FT : Hid (TabTo B w (w3.setRow w.heap.size (slotV x)) g R { S with c := A ++ D } v1 v2 v3) := F4.2
    clear ht F4 hdr
    go_wp2_with (first | ((with_reducible refine wl_gL _ rfl ?_); refine wl_loadS rfl _ rfl w2.heap.size 0 rfl x (ld_own X4.out) ?_) | ((with_reducible refine wl_gS _ _ rfl ?_); refine wl_storeS rfl _ _ rfl w.heap.size x zeroS rfl rfl Z4.out _ rfl ?_))
    refine ret2S (p := 2) (q := 3) rfl rfl w.heap.size rfl x (setRow_heap _ _ _ _ _ _ Z4.out) _ rfl ?_
    rw [FE.out]
    exact ⟨rfl, FT.out⟩
  · have HD1 : decide (S.c.length = R.cache) = false := decide_eq_false hf
    rw [HD1] at FU
    have FE : Hid (evictT R.cache S.c = (S.c, zeroS, false)) := by show _ = _; unfold evictT; rw [if_neg hf]
    have FT : Hid (∀ w4, Below w.heap.size w w4 → TabTo B w w4 g R { S with c := S.c } v1 v2 v3) := by
      intro w4 hb
      exact ⟨v1, v2, v3, h.below hb, Kept.of_below hb, fun k hk => .inl hk⟩
    clear h hd hok hf hr HD1 HW
    go_enter Try.func49, Try.ntmps49
    go_wp2_with (first | ((with_reducible refine wl_gA rfl ?_); refine wl_allocS rfl rfl ?_; try rw [sz_alloc]) | (go_at_call 43; refine (FU.out _ B0.out).mono ?_; rintro e w1 ⟨rfl, hb1⟩; have B1 : Hid (Below w.heap.size w w1) := below_step B0.out B0.out.size hb1; have Z1 : Hid (w1.heap[w.heap.size]? = some (.cells (slotV zeroS) 38 (0, 0))) := (hb1.block _ (by simp)).trans (heap_new _ _ _ rfl); clear hb1; refine of_stopS ?_))
    unfold StopS
    go_wp2_with (first | ((with_reducible refine wl_gZ rfl ?_); refine wl_buildS rfl rfl ?_) | ((with_reducible refine wl_gS _ _ rfl ?_); refine wl_storeS rfl _ _ rfl w.heap.size zeroS zeroS rfl rfl Z1.out _ rfl ?_))
    refine ret2S (p := 2) (q := 3) rfl rfl w.heap.size rfl zeroS (setRow_heap _ _ _ _ _ _ Z1.out) _ rfl ?_
    rw [FE.out]
    exact ⟨rfl, FT.out _ (below_setRow B1.out (Nat.le_refl _) _)⟩
end Go.Proofs.Ytojhckjdkafpmaa
namespace Go.Proofs.Ytojhckjdkafpmaa
open Go Go.RowKit
set_option maxRecDepth 20000

theorem find_at {S : Bks} {m : Slt → Bool} {b : Nat} {A D : List Slt} {x : Slt} (h : findT S m = some (b, A, x, D)) : (b = 1 ∨ b = 2 ∨ b = 3) ∧ bankL S b = A ++ x :: D := by
  rcases findT_cases S m with ⟨A', x', D', h1, e⟩ | ⟨_, A', x', D', h1, e⟩ | ⟨_, _, A', x', D', h1, e⟩ | ⟨_, _, _, e⟩
  · rw [h] at e
    simp only [Option.some.injEq, Prod.mk.injEq] at e
    obtain ⟨rfl, rfl, rfl, rfl⟩ := e
    exact ⟨.inl rfl, h1.1⟩
  · rw [h] at e
    simp only [Option.some.injEq, Prod.mk.injEq] at e
    obtain ⟨rfl, rfl, rfl, rfl⟩ := e
    exact ⟨.inr (.inl rfl), h1.1⟩
  · rw [h] at e
    simp only [Option.some.injEq, Prod.mk.injEq] at e
    obtain ⟨rfl, rfl, rfl, rfl⟩ := e
    exact ⟨.inr (.inr rfl), h1.1⟩
  · rw [h] at e; cases e
/-- Where a slot lies. -/
theorem SlotsAt.slot {B : Nat} {w : World} {v : Value} {C A D : List Slt} {x : Slt} (h : SlotsAt B w v C) (hC : C = A ++ x :: D) : ∃ gb n cap, v = .slice (some ⟨gb, 0, none⟩) n cap ∧ v.ownBlock = some gb ∧ ∀ W : World, W.heap[gb]? = w.heap[gb]? → (loadVar 38 ⟨gb, A.length * 36, none⟩).run Try.prog W = .ok (.agg (slotV x)) W ∧ SlF W gb (A.length * 36) x ∧ ∀ k, W.frozen? ⟨gb, k, none⟩ = false := by
  have hk : C[A.length]? = some x := by rw [hC]; simp
  obtain ⟨h1, ⟨e, h0⟩ | ⟨gb, cap, cur, e, hB, hcur, h3, h4, h5, h6⟩⟩ := h
  · rw [hC] at h0; simp at h0
  · refine ⟨gb, _, cap, e, by rw [e]; rfl, fun W hW => ?_⟩
    have hg := hW.trans hcur
    exact ⟨ld_row hg (row_at hcur h6 _ x hk), slf_of hg (row_at hcur h6 _ x hk), fun k => by simp [World.frozen?, hg]⟩
theorem flat_set {enc : Slt → List Value} {q : Nat} (hq : ∀ c, (enc c).length = q) {A D : List Slt} {x y : Slt} {j : Nat} (hj : j < q) {u : Value} (hy : enc y = (enc x).set j u) : ((A ++ x :: D).flatMap enc).set (A.length * q + j) u = (A ++ y :: D).flatMap enc := by
  have gl : (A.flatMap enc).length = A.length * q := by
    induction A with
    | nil => simp
    | cons c A ih => rw [List.flatMap_cons, List.length_append, ih, hq, List.length_cons, Nat.add_mul, Nat.one_mul, Nat.add_comm]
  rw [List.flatMap_append, List.flatMap_cons, List.flatMap_append, List.flatMap_cons, List.set_append_right _ _ (by omega), gl, Nat.add_sub_cancel_left, List.set_append_left _ _ (by rw [hq]; exact hj), hy]
theorem slotV_set (x : Slt) (j : Nat) (u : Value) (y : Slt) (h : slotV y = (slotV x).setIfInBounds j u) : (slotV y).toList = (slotV x).toList.set j u := by rw [h, Array.toList_setIfInBounds]
theorem arr_set (P T : Array Value) (n j : Nat) (u : Value) (h : n = P.size + j) : (P ++ T).setIfInBounds n u = P ++ T.setIfInBounds j u := by
  subst h
  apply Array.ext'
  rw [Array.toList_setIfInBounds, Array.toList_append, Array.toList_append, Array.toList_setIfInBounds, List.set_append_right _ _ (by rw [Array.length_toList]; omega), Array.length_toList, Nat.add_sub_cancel_left]
theorem slotV_count (x : Slt) (c : Int) : slotV { x with count := c } = (slotV x).setIfInBounds 35 (.int .i64 c) := by
  unfold slotV
  rw [arr_set _ _ 35 5 _ (by rw [Array.size_append, cv_size _ _ (pad_len _) (pad_len _)]; rfl)]
  rfl
theorem slotV_used (x : Slt) (c : Int) : slotV { x with used := c } = (slotV x).setIfInBounds 34 (.int .i64 c) := by
  unfold slotV
  rw [arr_set _ _ 34 4 _ (by rw [Array.size_append, cv_size _ _ (pad_len _) (pad_len _)]; rfl)]
  rfl
/-- One field of a slot is stored. -/
theorem SlotsAt.field {B : Nat} {w : World} {gb n cap : Nat} {C A D : List Slt} {x y : Slt} {j : Nat} {u : Value} (h : SlotsAt B w (.slice (some ⟨gb, 0, none⟩) n cap) C) (hC : C = A ++ x :: D) (hj : j < 36) (hy : slotV y = (slotV x).setIfInBounds j u) :
    SlotsAt B (w.setCell ⟨gb, A.length * 36 + j, none⟩ u) (.slice (some ⟨gb, 0, none⟩) n cap) (A ++ y :: D) ∧ Kept (isB gb) w (w.setCell ⟨gb, A.length * 36 + j, none⟩ u) := by
  have hl : n = C.length := by
    obtain ⟨o, cap', e, _⟩ := h.slice
    simp only [Value.slice.injEq] at e
    exact e.2.1
  subst hl
  obtain ⟨h1, h2⟩ := World.ownsRow.stored h (A.length * 36 + j) u
  refine ⟨?_, Kept.of_grown h2 fun k e => by simp only [Option.some.injEq] at e; exact e.symm⟩
  have e1 : (A ++ y :: D).length = C.length := by rw [hC]; simp
  unfold SlotsAt
  rw [e1]
  have e2 : gcells slotV (A ++ y :: D) = (gcells slotV C).set (A.length * 36 + j) u := by
    rw [hC]
    exact (flat_set (enc := fun c => (slotV c).toList) (q := 36) (fun c => by rw [Array.length_toList, slotV_size]) hj (slotV_set x j u y hy)).symm
  rw [e2]
  exact h1
/-- A bank's row has changed in place. -/
theorem TabV.row {B : Nat} {w w' : World} {g : Nat} {R : Rm} {S : Bks} {v1 v2 v3 : Value} (h : TabV B w g R S v1 v2 v3) (b : Nat) (hb : b = 1 ∨ b = 2 ∨ b = 3) (l : List Slt) (hk : Kept (rowX (bankV v1 v2 v3 b)) w w') (hu : SlotsAt B w' (bankV v1 v2 v3 b) l) : TabTo B w w' g R (putB S b l) v1 v2 v3 := by
  have hgx : ¬ rowX (bankV v1 v2 v3 b) g := (h.bank b).ty h.blk (by decide)
  have hbk := hk.heap h.blk hgx
  have hKf : Kept (footT g v1 v2 v3) w w' := by
    refine hk.mono fun k _ e => ?_
    rcases hb with rfl | rfl | rfl
    · exact .inr (.inl e)
    · exact .inr (.inr (.inl e))
    · exact .inr (.inr (.inr e))
  rcases hb with rfl | rfl | rfl
  · exact ⟨v1, v2, v3, ⟨hbk, hu, h.o2.kept hk fun k e e' => h.a12.ne k e' e, h.o3.kept hk fun k e e' => h.a13.ne k e' e, h.a12, h.a13, h.a23, h.hB⟩, hKf, fun k hk => .inl hk⟩
  · exact ⟨v1, v2, v3, ⟨hbk, h.o1.kept hk fun k e e' => h.a12.ne k e e', hu, h.o3.kept hk fun k e e' => h.a23.ne k e' e, h.a12, h.a13, h.a23, h.hB⟩, hKf, fun k hk => .inl hk⟩
  · exact ⟨v1, v2, v3, ⟨hbk, h.o1.kept hk fun k e e' => h.a13.ne k e e', h.o2.kept hk fun k e e' => h.a23.ne k e e', hu, h.a12, h.a13, h.a23, h.hB⟩, hKf, fun k hk => .inl hk⟩
set_option maxHeartbeats 8000000 in
theorem peek_any (B : Nat) (w : World) (g : Nat) (R : Rm) (S : Bks) (v1 v2 v3 : Value) (h : TabV B w g R S v1 v2 v3) (e : Int) (H : List Int) (hH : Byt H) (hz : ∀ x ∈ S.c, x.order = 0) (hok : ∀ b, ∀ x ∈ bankL S b, OkC x.cube) :
    Calls Try.prog 18 #[.pointer (some ⟨g, 0, none⟩), .int .i64 e, .agg (hv H)] w fun r w' => r = .returned (.tuple #[.agg (slotV (peekT S (mtS hsC e H)).1), .bool (peekT S (mtS hsC e H)).2]) ∧ Below w.heap.size w w' := by
  have HHl := hH.1
  have FI : Hid (∀ W, Below w.heap.size w W → Calls Try.prog 45 #[.pointer (some ⟨g, 0, none⟩), .int .i64 e, .agg (hv H)] W fun r w' => r = .returned (findP S (mtS hsC e H) v1 v2 v3) ∧ Below W.heap.size W w') := by
    intro W hb
    exact find_any B W g R S v1 v2 v3 (h.below hb) e H hH hz hok
  have B0 : Hid (Below w.heap.size w ((w.alloc (.cells (hv H) 34)).alloc (.cells (slotV zeroS) 38))) := ((Below.refl _ _).alloc (Nat.le_refl _) _).alloc (by simp) _
  have H0 : Hid (((w.alloc (.cells (hv H) 34)).alloc (.cells (slotV zeroS) 38)).heap[w.heap.size]? = some (.cells (hv H) 34 (0, 0))) := heap_past _ _ _ _ (heap_new _ _ _ rfl)
  have Z0 : Hid (((w.alloc (.cells (hv H) 34)).alloc (.cells (slotV zeroS) 38)).heap[w.heap.size + 1]? = some (.cells (slotV zeroS) 38 (0, 0))) := heap_new _ _ _ (by simp)
  cases hf : findT S (mtS hsC e H) with
  | none =>
    have e1 : findP S (mtS hsC e H) v1 v2 v3 = .pointer none := by unfold findP; rw [hf]
    have e2 : Hid (peekT S (mtS hsC e H) = (zeroS, false)) := by show _ = _; unfold peekT; rw [hf]
    rw [e1] at FI
    clear h hz hok hH hf e1
    go_enter Try.func18, Try.ntmps18
    go_wp2_with (first | ((with_reducible refine wl_gA rfl ?_); refine wl_allocS rfl rfl ?_; try rw [sz_alloc]) | ((with_reducible refine wl_gH _ rfl ?_); refine wl_loadHg rfl _ rfl w.heap.size rfl H H0.out HHl ?_) | (go_at_call 45; refine (FI.out _ B0.out).mono ?_; rintro r w1 ⟨rfl, hb1⟩; have B1 : Hid (Below w.heap.size w w1) := below_step B0.out B0.out.size hb1; have Z1 : Hid (w1.heap[w.heap.size + 1]? = some (.cells (slotV zeroS) 38 (0, 0))) := (hb1.block _ (by simp)).trans Z0.out; clear hb1; refine of_stopS ?_))
    unfold StopS
    go_wp2_with (first | ((with_reducible refine wl_gZ rfl ?_); refine wl_buildS rfl rfl ?_) | ((with_reducible refine wl_gS _ _ rfl ?_); refine wl_storeS rfl _ _ rfl (w.heap.size + 1) zeroS zeroS rfl rfl Z1.out _ rfl ?_))
    refine ret2S (p := 6) (q := 7) rfl rfl (w.heap.size + 1) rfl zeroS (setRow_heap _ _ _ _ _ _ Z1.out) _ rfl ?_
    rw [e2.out]
    exact ⟨rfl, below_setRow B1.out (by omega) _⟩
  | some r =>
    obtain ⟨b, A, x, D⟩ := r
    obtain ⟨_, hC⟩ := find_at hf
    obtain ⟨gb, n, cap, ev, eo, hl⟩ := (h.bank b).slot hC
    have e1 : findP S (mtS hsC e H) v1 v2 v3 = .pointer (some ⟨gb, A.length * 36, none⟩) := by unfold findP; rw [hf]; simp only [eo, Option.getD_some]
    have e2 : Hid (peekT S (mtS hsC e H) = (x, true)) := by show _ = _; unfold peekT; rw [hf]
    have hgb : gb < w.heap.size := ((h.bank b).lt gb eo).2
    have LD : Hid (∀ W, Below w.heap.size w W → (loadVar 38 ⟨gb, A.length * 36, none⟩).run Try.prog W = .ok (.agg (slotV x)) W) := by
      intro W hb
      exact (hl W (hb.block gb hgb)).1
    rw [e1] at FI
    clear h hz hok hH hf e1 hl hC ev eo
    generalize A.length * 36 = off at FI LD
    go_enter Try.func18, Try.ntmps18
    go_wp2_with (first | ((with_reducible refine wl_gA rfl ?_); refine wl_allocS rfl rfl ?_; try rw [sz_alloc]) | ((with_reducible refine wl_gH _ rfl ?_); refine wl_loadHg rfl _ rfl w.heap.size rfl H H0.out HHl ?_) | (go_at_call 45; refine (FI.out _ B0.out).mono ?_; rintro r w1 ⟨rfl, hb1⟩; have B1 : Hid (Below w.heap.size w w1) := below_step B0.out B0.out.size hb1; have Z1 : Hid (w1.heap[w.heap.size + 1]? = some (.cells (slotV zeroS) 38 (0, 0))) := (hb1.block _ (by simp)).trans Z0.out; clear hb1; refine of_stopS ?_))
    unfold StopS
    go_wp2_with (first | ((with_reducible refine wl_gL _ rfl ?_); refine wl_loadS rfl _ rfl gb off rfl x (LD.out _ B1.out) ?_) | ((with_reducible refine wl_gS _ _ rfl ?_); refine wl_storeS rfl _ _ rfl (w.heap.size + 1) x zeroS rfl rfl Z1.out _ rfl ?_))
    refine ret2S (p := 6) (q := 7) rfl rfl (w.heap.size + 1) rfl x (setRow_heap _ _ _ _ _ _ Z1.out) _ rfl ?_
    rw [e2.out]
    exact ⟨rfl, below_setRow B1.out (by omega) _⟩
theorem below_kept {w W : World} {X : Nat → Prop} (h : Kept X w W) (hX : ∀ k, X k → w.heap.size ≤ k) : Below w.heap.size w W := h.below hX (Nat.le_refl _)
set_option maxHeartbeats 16000000 in
theorem look_any (B : Nat) (w : World) (g : Nat) (R : Rm) (S : Bks) (v1 v2 v3 : Value) (h : TabV B w g R S v1 v2 v3) (now e : Int) (H : List Int) (hH : Byt H) (hz : ∀ x ∈ S.c, x.order = 0) (hok : ∀ b, ∀ x ∈ bankL S b, OkC x.cube ∧ x.bank = (b : Int) ∧ 0 ≤ x.count ∧ x.count ≤ MAXT) :
    Calls Try.prog 20 #[.pointer (some ⟨g, 0, none⟩), .int .i64 now, .int .i64 e, .agg (hv H)] w fun r w' => r = .returned (.tuple #[.agg (slotV (lookT S (mtS hsC e H) now).2.1), .bool (lookT S (mtS hsC e H) now).2.2]) ∧ TabTo B w w' g R (lookT S (mtS hsC e H) now).1 v1 v2 v3 := by
  have HHl := hH.1
  have FI : Hid (∀ W, Below w.heap.size w W → Calls Try.prog 45 #[.pointer (some ⟨g, 0, none⟩), .int .i64 e, .agg (hv H)] W fun r w' => r = .returned (findP S (mtS hsC e H) v1 v2 v3) ∧ Below W.heap.size W w') := by
    intro W hb
    exact find_any B W g R S v1 v2 v3 (h.below hb) e H hH hz fun b x hx => (hok b x hx).1
  have TI : Hid (∀ W, Calls Try.prog 46 #[.int .i64 now] W fun r w' => r = .returned (.int .i64 (timeT now)) ∧ w' = W) := ticks_any now
  have B0 : Hid (Below w.heap.size w ((w.alloc (.cells (hv H) 34)).alloc (.cells (slotV zeroS) 38))) := ((Below.refl _ _).alloc (Nat.le_refl _) _).alloc (by simp) _
  have H0 : Hid (((w.alloc (.cells (hv H) 34)).alloc (.cells (slotV zeroS) 38)).heap[w.heap.size]? = some (.cells (hv H) 34 (0, 0))) := heap_past _ _ _ _ (heap_new _ _ _ rfl)
  have Z0 : Hid (((w.alloc (.cells (hv H) 34)).alloc (.cells (slotV zeroS) 38)).heap[w.heap.size + 1]? = some (.cells (slotV zeroS) 38 (0, 0))) := heap_new _ _ _ (by simp)
  cases hf : findT S (mtS hsC e H) with
  | none =>
    have e1 : findP S (mtS hsC e H) v1 v2 v3 = .pointer none := by unfold findP; rw [hf]
    have e2 : Hid (lookT S (mtS hsC e H) now = (S, zeroS, false)) := by show _ = _; unfold lookT; rw [hf]
    have FT : Hid (∀ w4, Below w.heap.size w w4 → TabTo B w w4 g R S v1 v2 v3) := by
      intro w4 hb
      exact ⟨v1, v2, v3, h.below hb, Kept.of_below hb, fun k hk => .inl hk⟩
    rw [e1] at FI
    clear h hz hok hH hf e1
    go_enter Try.func20, Try.ntmps20
    go_wp2_with (first | ((with_reducible refine wl_gA rfl ?_); refine wl_allocS rfl rfl ?_; try rw [sz_alloc]) | ((with_reducible refine wl_gH _ rfl ?_); refine wl_loadHg rfl _ rfl w.heap.size rfl H H0.out HHl ?_) | (go_at_call 45; refine (FI.out _ B0.out).mono ?_; rintro r w1 ⟨rfl, hb1⟩; have B1 : Hid (Below w.heap.size w w1) := below_step B0.out B0.out.size hb1; have Z1 : Hid (w1.heap[w.heap.size + 1]? = some (.cells (slotV zeroS) 38 (0, 0))) := (hb1.block _ (by simp)).trans Z0.out; clear hb1; refine of_stopS ?_))
    unfold StopS
    go_wp2_with (first | ((with_reducible refine wl_gZ rfl ?_); refine wl_buildS rfl rfl ?_) | ((with_reducible refine wl_gS _ _ rfl ?_); refine wl_storeS rfl _ _ rfl (w.heap.size + 1) zeroS zeroS rfl rfl Z1.out _ rfl ?_))
    refine ret2S (p := 8) (q := 9) rfl rfl (w.heap.size + 1) rfl zeroS (setRow_heap _ _ _ _ _ _ Z1.out) _ rfl ?_
    rw [e2.out]
    exact ⟨rfl, FT.out _ (below_setRow B1.out (by omega) _)⟩
  | some r =>
    obtain ⟨b, A, x, D⟩ := r
    obtain ⟨hb3, hC⟩ := find_at hf
    obtain ⟨gb, n, cap, ev, eo, hl⟩ := (h.bank b).slot hC
    obtain ⟨_, hxb, hc0, hc1⟩ := hok b x (by rw [hC]; simp)
    have e1 : findP S (mtS hsC e H) v1 v2 v3 = .pointer (some ⟨gb, A.length * 36, none⟩) := by unfold findP; rw [hf]; simp only [eo, Option.getD_some]
    have e2 : Hid (lookT S (mtS hsC e H) now = (putB S b (A ++ usedS now b x :: D), usedS now b x, true)) := by show _ = _; unfold lookT; rw [hf]
    have hgb : gb < w.heap.size := ((h.bank b).lt gb eo).2
    have HCN : Hid ((usedS now b x).count = min (x.count + 1) 1099511627776) := by
      show (if x.count < MAXT then x.count + 1 else x.count) = _
      unfold MAXT at hc1 ⊢
      split <;> omega
    obtain ⟨cn, hcn⟩ : ∃ cn, cn = min (x.count + 1) 1099511627776 := ⟨_, rfl⟩
    have LD : Hid (∀ W, Below w.heap.size w W → SlF W gb (A.length * 36) x ∧ (∀ k, W.frozen? ⟨gb, k, none⟩ = false) ∧ SlotsAt B W (.slice (some ⟨gb, 0, none⟩) n cap) (A ++ x :: D)) := by
      intro W hb
      obtain ⟨q1, q2, q3⟩ := hl W (hb.block gb hgb)
      refine ⟨q2, q3, ?_⟩
      have := (h.below hb).bank b
      rw [hC, ev] at this
      exact this
    have FT : Hid (∀ w1 w4, Below w.heap.size w w1 → w.heap.size + 1 < w1.heap.size → Kept (isB gb) w1 w4 → SlotsAt B w4 (.slice (some ⟨gb, 0, none⟩) n cap) (A ++ usedS now b x :: D) → TabTo B w (w4.setRow (w.heap.size + 1) (slotV (usedS now b x))) g R (putB S b (A ++ usedS now b x :: D)) v1 v2 v3) := by
      intro w1 w4 hb hlt hk hs
      have key : ∀ k, isB gb k ↔ rowX (bankV v1 v2 v3 b) k := fun k => by unfold isB rowX; rw [eo]; simp only [Option.some.injEq]; exact ⟨fun e => e.symm, fun e => e.symm⟩
      have ht := (h.below hb).row b hb3 (A ++ usedS now b x :: D) (hk.mono fun k _ e => (key k).1 e) (by rw [ev]; exact hs)
      exact ht.loc h hb (kept_setRow _ _ _) fun k e => by unfold isB at e; omega
    rw [e1] at FI
    clear h hz hok hH hf e1 hl hC ev eo
    obtain ⟨off, hoff⟩ : ∃ off, off = A.length * 36 := ⟨_, rfl⟩
    have HOFF : Hid (off = A.length * 36) := hoff
    rw [← hoff] at FI LD
    clear hoff
    have hx1 : x.count ≤ 1099511627776 := hc1
    have HU : Hid (∀ W, Below w.heap.size w W → SlF W gb off x ∧ (∀ k, W.frozen? ⟨gb, k, none⟩ = false) ∧ SlF (W.setCell ⟨gb, off + 35, none⟩ (.int .i64 (min (x.count + 1) 1099511627776))) gb off { x with count := min (x.count + 1) 1099511627776 } ∧ (∀ k, (W.setCell ⟨gb, off + 35, none⟩ (.int .i64 (min (x.count + 1) 1099511627776))).frozen? ⟨gb, k, none⟩ = false) ∧ (loadVar 38 ⟨gb, off, none⟩).run Try.prog (W.setCell ⟨gb, off + 35, none⟩ (.int .i64 (min (x.count + 1) 1099511627776))) = .ok (.agg (slotV { x with count := min (x.count + 1) 1099511627776 })) (W.setCell ⟨gb, off + 35, none⟩ (.int .i64 (min (x.count + 1) 1099511627776))) ∧ SlotsAt B (W.setCell ⟨gb, off + 35, none⟩ (.int .i64 (min (x.count + 1) 1099511627776))) (.slice (some ⟨gb, 0, none⟩) n cap) (A ++ { x with count := min (x.count + 1) 1099511627776 } :: D) ∧ Kept (isB gb) W (W.setCell ⟨gb, off + 35, none⟩ (.int .i64 (min (x.count + 1) 1099511627776))) ∧ (loadVar 38 ⟨gb, off, none⟩).run Try.prog ((W.setCell ⟨gb, off + 35, none⟩ (.int .i64 (min (x.count + 1) 1099511627776))).setCell ⟨gb, off + 34, none⟩ (.int .i64 (timeT now))) = .ok (.agg (slotV { x with count := min (x.count + 1) 1099511627776, used := timeT now })) ((W.setCell ⟨gb, off + 35, none⟩ (.int .i64 (min (x.count + 1) 1099511627776))).setCell ⟨gb, off + 34, none⟩ (.int .i64 (timeT now))) ∧ SlotsAt B ((W.setCell ⟨gb, off + 35, none⟩ (.int .i64 (min (x.count + 1) 1099511627776))).setCell ⟨gb, off + 34, none⟩ (.int .i64 (timeT now))) (.slice (some ⟨gb, 0, none⟩) n cap) (A ++ { x with count := min (x.count + 1) 1099511627776, used := timeT now } :: D) ∧ Kept (isB gb) W ((W.setCell ⟨gb, off + 35, none⟩ (.int .i64 (min (x.count + 1) 1099511627776))).setCell ⟨gb, off + 34, none⟩ (.int .i64 (timeT now)))) := by
      intro W hb
      obtain ⟨q1, q2, q3⟩ := LD.out W hb
      have ho := HOFF.out
      rw [ho] at q1 ⊢
      obtain ⟨r1, r2⟩ := q3.field rfl (by decide) (slotV_count x (min (x.count + 1) 1099511627776))
      obtain ⟨g2, n2, cap2, ev2, _, hl2⟩ := r1.slot rfl
      simp only [Value.slice.injEq, Option.some.injEq, Addr.mk.injEq, and_true] at ev2
      obtain ⟨rfl, _⟩ := ev2
      obtain ⟨s1, s2, s3⟩ := hl2 _ rfl
      obtain ⟨t1, t2⟩ := r1.field (y := { x with count := min (x.count + 1) 1099511627776, used := timeT now }) rfl (by decide) (slotV_used { x with count := min (x.count + 1) 1099511627776 } (timeT now))
      obtain ⟨g3, n3, cap3, ev3, _, hl3⟩ := t1.slot rfl
      simp only [Value.slice.injEq, Option.some.injEq, Addr.mk.injEq, and_true] at ev3
      obtain ⟨rfl, _⟩ := ev3
      obtain ⟨p1, p2, p3⟩ := hl3 _ rfl
      exact ⟨q1, q2, s2, s3, s1, r1, r2, p1, t1, r2.trans t2 fun k hk => .inl hk⟩
    have USE : Hid (usedS now b x = if b = 1 then { x with count := min (x.count + 1) 1099511627776, used := timeT now } else { x with count := min (x.count + 1) 1099511627776 }) := by
      show _ = _
      have hcn' := HCN.out
      have e3 : (if x.count < MAXT then x.count + 1 else x.count) = min (x.count + 1) 1099511627776 := hcn'
      unfold usedS
      rw [e3]
      by_cases h1 : b = 1
      · rw [if_pos h1, if_pos h1]
      · rw [if_neg h1, if_neg h1]
    clear LD HCN hcn hc1
    go_enter Try.func20, Try.ntmps20
    go_wp2_with (first | ((with_reducible refine wl_gA rfl ?_); refine wl_allocS rfl rfl ?_; try rw [sz_alloc]) | ((with_reducible refine wl_gH _ rfl ?_); refine wl_loadHg rfl _ rfl w.heap.size rfl H H0.out HHl ?_) | (go_at_call 45; refine (FI.out _ B0.out).mono ?_; rintro r w1 ⟨rfl, hb1⟩; have B1 : Hid (Below w.heap.size w w1) := below_step B0.out B0.out.size hb1; have SZ1 : Hid (w.heap.size + 1 < w1.heap.size) := (by have h1 := hb1.size; show _ < _; simp at h1; omega); have Z1 : Hid (w1.heap[w.heap.size + 1]? = some (.cells (slotV zeroS) 38 (0, 0))) := (hb1.block _ (by simp)).trans Z0.out; clear hb1; refine of_stopS ?_))
    unfold StopS
    obtain ⟨q1, q2, s2, s3, s1, r1, r2, p1, t1, t2⟩ := HU.out w1 B1.out
    have c35 := q1.c35
    have f35 := q2 (off + 35)
    have c0 := s2.c0
    have c34 := s2.c34
    have f34 := s3 (off + 34)
    have S1 : Hid _ := s1
    have R1 : Hid _ := r1
    have R2 : Hid _ := r2
    have P1 : Hid _ := p1
    have T1 : Hid _ := t1
    have T2 : Hid _ := t2
    have NG : Hid (gb ≠ w.heap.size + 1) := by show _ ≠ _; omega
    clear q1 q2 s2 s3 s1 r1 r2 p1 t1 t2 HU
    simp only at c0 c34
    by_cases hb1 : b = 1
    · have hxb1 : x.bank = 1 := by rw [hxb, hb1]; rfl
      have Z2 : Hid (((w1.setCell ⟨gb, off + 35, none⟩ (.int .i64 (min (x.count + 1) 1099511627776))).setCell ⟨gb, off + 34, none⟩ (.int .i64 (timeT now))).heap[w.heap.size + 1]? = some (.cells (slotV zeroS) 38 (0, 0))) := T2.out.heap Z1.out (fun e => NG.out (by unfold isB at e; exact e.symm))
      have UE : Hid (usedS now b x = { x with count := min (x.count + 1) 1099511627776, used := timeT now }) := USE.out.trans (if_pos hb1)
      have FX : Hid (TabTo B w (((w1.setCell ⟨gb, off + 35, none⟩ (.int .i64 (min (x.count + 1) 1099511627776))).setCell ⟨gb, off + 34, none⟩ (.int .i64 (timeT now))).setRow (w.heap.size + 1) (slotV { x with count := min (x.count + 1) 1099511627776, used := timeT now })) g R (putB S b (A ++ { x with count := min (x.count + 1) 1099511627776, used := timeT now } :: D)) v1 v2 v3) := by
        have h9 := FT.out w1 _ B1.out SZ1.out T2.out (by rw [UE.out]; exact T1.out)
        rw [UE.out] at h9
        exact h9
      rw [hxb1] at c0
      clear hb1 hxb USE FT hxb1
      go_wp2_with (first | (go_at_call 46; refine (TI.out _).mono ?_; rintro r w2 ⟨rfl, rfl⟩) | ((with_reducible refine wl_gL _ rfl ?_); refine wl_loadS rfl _ rfl gb off rfl { x with count := min (x.count + 1) 1099511627776, used := timeT now } P1.out ?_) | ((with_reducible refine wl_gS _ _ rfl ?_); refine wl_storeS rfl _ _ rfl (w.heap.size + 1) { x with count := min (x.count + 1) 1099511627776, used := timeT now } zeroS rfl rfl Z2.out _ rfl ?_))
      refine ret2S (p := 8) (q := 9) rfl rfl (w.heap.size + 1) rfl { x with count := min (x.count + 1) 1099511627776, used := timeT now } (setRow_heap _ _ _ _ _ _ Z2.out) _ rfl ?_
      rw [e2.out, UE.out]
      exact ⟨rfl, FX.out⟩
    · have hxb1 : x.bank ≠ 1 := by rw [hxb]; omega
      have Z2 : Hid ((w1.setCell ⟨gb, off + 35, none⟩ (.int .i64 (min (x.count + 1) 1099511627776))).heap[w.heap.size + 1]? = some (.cells (slotV zeroS) 38 (0, 0))) := R2.out.heap Z1.out (fun e => NG.out (by unfold isB at e; exact e.symm))
      have UE : Hid (usedS now b x = { x with count := min (x.count + 1) 1099511627776 }) := USE.out.trans (if_neg hb1)
      have FX : Hid (TabTo B w ((w1.setCell ⟨gb, off + 35, none⟩ (.int .i64 (min (x.count + 1) 1099511627776))).setRow (w.heap.size + 1) (slotV { x with count := min (x.count + 1) 1099511627776 })) g R (putB S b (A ++ { x with count := min (x.count + 1) 1099511627776 } :: D)) v1 v2 v3) := by
        have h9 := FT.out w1 _ B1.out SZ1.out R2.out (by rw [UE.out]; exact R1.out)
        rw [UE.out] at h9
        exact h9
      clear hb1 hxb USE FT
      go_wp2_with (first | (go_at_call 46; refine (TI.out _).mono ?_; rintro r w2 ⟨rfl, rfl⟩) | ((with_reducible refine wl_gL _ rfl ?_); refine wl_loadS rfl _ rfl gb off rfl { x with count := min (x.count + 1) 1099511627776 } S1.out ?_) | ((with_reducible refine wl_gS _ _ rfl ?_); refine wl_storeS rfl _ _ rfl (w.heap.size + 1) { x with count := min (x.count + 1) 1099511627776 } zeroS rfl rfl Z2.out _ rfl ?_))
      refine ret2S (p := 8) (q := 9) rfl rfl (w.heap.size + 1) rfl { x with count := min (x.count + 1) 1099511627776 } (setRow_heap _ _ _ _ _ _ Z2.out) _ rfl ?_
      rw [e2.out, UE.out]
      exact ⟨rfl, FX.out⟩
end Go.Proofs.Ytojhckjdkafpmaa
