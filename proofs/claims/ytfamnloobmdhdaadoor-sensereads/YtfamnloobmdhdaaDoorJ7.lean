import Derived.Test.YtfamnloobmdhdaaDoorJ6
import Derived.Test.YtfamnloobmdhdaaDoorJ1
import Derived.StillTailTactics
import Derived.Laws.BitsLemmas
namespace Go.Proofs.YtfamnloobmdhdaaDoor
open Go Go.RowKit
set_option maxRecDepth 20000

theorem later_cell7 {W : World} {g k : Nat} {cs : Array Value} {t : TypeId} {fr : Nat × Nat} {v : Value} (hg : W.heap[g]? = some (.cells cs t fr)) (hk : cs[k]? = some v) : ∀ u : Later W, u.world.cell? ⟨g, k, none⟩ = some v := fun u => by
  rw [cell_of_row u.world _ _ _ _ _ (later_block hg _ ⟨u, rfl⟩)]; exact hk
theorem figs_slice7 (w : World) (c : Cla) (u : Value) (h : FigsAt w c u) : ∃ o n m, u = .slice o n m := by
  obtain ⟨o, cap, rfl, _⟩ := GSl.slice h
  exact ⟨_, _, _, rfl⟩
/-- A row that lies in a block of its own. -/
theorem gsl_row {α : Type} {E : El} {enc : α → Array Value} (hE : ∀ c, (enc c).size = E.size) {w : World} {g : Nat} {C : List α} {t : TypeId} {fr : Nat × Nat} (h : w.heap[g]? = some (.cells (gcells enc C).toArray t fr)) (hl : C.length ≤ maxLen) : GSl E enc w (.slice (some ⟨g, 0, none⟩) C.length C.length) C :=
  ⟨_, _, rfl, Nat.le_refl _, hl, fun i hi => ⟨g, 0, _, _, _, rfl, h, fun j hj => by
    rw [← gcells_at enc E.size C (fun c _ => hE c) i hi j hj, Nat.zero_add, Nat.mul_comm]
    simp⟩⟩
theorem wl_build3F {ops : Array Oper} {rest : List Oper} {o : Oper} {a : Act} {w : World} {Q : Exit → Act → World → Prop} (hg : o.guard = none) (x y z : Operand) (ho : o.op = .buildSlice 93 3 #[(0, x), (1, y), (2, z)]) (p q r : Int × Int) (hx : a.eval x = .agg (fltV p)) (hy : a.eval y = .agg (fltV q)) (hz : a.eval z = .agg (fltV r))
    (h : wpList Tryd.prog ops Q rest (a.put o.dst (.slice (some ⟨w.heap.size, 0, none⟩) 3 3)) (w.alloc (.cells (gcells fltV [p, q, r]).toArray 56))) : wpList Tryd.prog ops Q (o :: rest) a w := by
  obtain ⟨ie, hie, hze, hs, _⟩ := FltOk.info
  have hs' : ie.size = 2 := hs
  refine wpList_buildSlice hg 93 56 3 _ ho _ ie (.agg FltE.zero) FltOk.hs hie hze (by rw [hs']; decide) (by rw [hs']; decide) ?_ h
  simp only [List.map_toArray, List.map_cons, List.map_nil, hx, hy, hz, hs']
  kernel_rfl
theorem wl_build4F {ops : Array Oper} {rest : List Oper} {o : Oper} {a : Act} {w : World} {Q : Exit → Act → World → Prop} (hg : o.guard = none) (x y z t : Operand) (ho : o.op = .buildSlice 93 4 #[(0, x), (1, y), (2, z), (3, t)]) (p q r s : Int × Int) (hx : a.eval x = .agg (fltV p)) (hy : a.eval y = .agg (fltV q)) (hz : a.eval z = .agg (fltV r)) (ht : a.eval t = .agg (fltV s))
    (h : wpList Tryd.prog ops Q rest (a.put o.dst (.slice (some ⟨w.heap.size, 0, none⟩) 4 4)) (w.alloc (.cells (gcells fltV [p, q, r, s]).toArray 56))) : wpList Tryd.prog ops Q (o :: rest) a w := by
  obtain ⟨ie, hie, hze, hs, _⟩ := FltOk.info
  have hs' : ie.size = 2 := hs
  refine wpList_buildSlice hg 93 56 4 _ ho _ ie (.agg FltE.zero) FltOk.hs hie hze (by rw [hs']; decide) (by rw [hs']; decide) ?_ h
  simp only [List.map_toArray, List.map_cons, List.map_nil, hx, hy, hz, ht, hs']
  kernel_rfl
def whenF (b : Bool) (e p : Int) : Int × Int := if b then (e, p) else (0, 0)
theorem whenF_any (b : Bool) (e p : Int) (w : World) :
    Calls Tryd.prog 26 #[.bool b, .int .i64 e, .int .i64 p] w fun x w' => x = .returned (.agg (fltV (whenF b e p))) ∧ Below w.heap.size w w' := when_any b e p w
theorem first3 (had : List Cla) (c : Cla) : firstF [whenF (((c.nums.length : Int)) != manyI c) 8 c.pos, whenF (had.any (fun d => d.word == c.word)) 9 c.pos, numF c 0 c.nums] = claF had c := by
  rw [many_ne]
  have hz : ∀ (l : List Fig) (k : Nat), (numF c k l).1 = 0 → numF c k l = (0, 0) := by
    intro l
    induction l with
    | nil => intro k _; rfl
    | cons f l ih =>
      intro k h
      rw [numF] at h ⊢
      split
      · rename_i hh; rw [if_pos hh] at h; simp at h
      · rename_i hh; rw [if_neg hh] at h; exact ih _ h
  unfold claF whenF
  generalize (mustN c == 0 || c.nums.length != mustN c) = b1
  generalize (had.any fun d => d.word == c.word) = b2
  cases b1
  · cases b2
    · simp only [firstF, Bool.false_eq_true, if_false, if_true]
      split
      · rename_i h; exact (hz _ _ h).symm
      · rfl
    · simp [firstF]
  · simp [firstF]

set_option maxHeartbeats 4000000 in
theorem clauseF_any (had : List Cla) (c : Cla) (u va : Value) (w : World) (hu : FigsAt w c u) (ha : NSl ClaE claV FigsAt w va had) :
    Calls Tryd.prog 48 #[.agg (claV c u), va] w fun x w' => x = .returned (.agg (fltV (claF had c))) ∧ Below w.heap.size w w' := by
  obtain ⟨o, cap, rfl, hc1, hc2⟩ := GSl.slice hu
  obtain ⟨oa, capa, rfl, -, -⟩ := NSl.slice ha
  have hmf : ∀ (fn : Fn) (first cap : Array Value) (w : World), (Instr.makeFunc fn first cap).run Tryd.prog w = .ok (.func fn first cap) w := fun _ _ _ _ => rfl
  obtain ⟨n, hn⟩ : ∃ n, n = c.nums.length := ⟨_, rfl⟩
  have HN : Hid (n = c.nums.length) := hn
  rw [← hn] at hu hc1 ⊢
  have CF : Hid (∀ W, Below w.heap.size w W → W.heap[w.heap.size]? = some (.cells (claV c (.slice o n cap)) 54 (0, 0)) → Calls Tryd.prog 76 #[.slice oa had.length capa, .func (.func 77) #[] #[.pointer (some ⟨w.heap.size, 0, none⟩)]] W fun e w' => e = .returned (.bool (had.any (fun d => d.word == c.word))) ∧ Below W.heap.size W w') := fun W hb hk => containsFunc7_any figs_slice7 W _ had (NSl.below figs_below ha hb) w.heap.size c _ hk
  have MA : Hid (∀ W, Calls Tryd.prog 78 #[.agg (claV c (.slice o n cap))] W fun x w' => x = .returned (.int .i64 (manyI c)) ∧ Below W.heap.size W w') := fun W => many7_any c _ ⟨_, _, _, rfl⟩ W
  have WH : Hid (∀ b e p W, Calls Tryd.prog 26 #[.bool b, .int .i64 e, .int .i64 p] W fun x w' => x = .returned (.agg (fltV (whenF b e p))) ∧ Below W.heap.size W w') := whenF_any
  have NU : Hid (∀ W, Below w.heap.size w W → Calls Tryd.prog 79 #[.agg (claV c (.slice o n cap))] W fun x w' => x = .returned (.agg (fltV (numF c 0 c.nums))) ∧ Below W.heap.size W w') := fun W hb => numbers_any c _ W (figs_below _ _ _ _ hb hu)
  have FI : Hid (∀ F v W, GSl FltE fltV W v F → Calls Tryd.prog 25 #[v] W fun e w' => e = .returned (.agg (fltV (firstF F))) ∧ Below W.heap.size W w') := first7_any
  have b1 : Hid (((w.alloc (.cells (claV c (.slice o n cap)) 54)).alloc (.cells #[.int .i64 0, .int .i64 0] 56)).heap[w.heap.size]? = some (.cells (claV c (.slice o n cap)) 54 (0, 0))) := heap_past _ _ _ _ (heap_new _ _ _ rfl)
  have b2 : Hid (((w.alloc (.cells (claV c (.slice o n cap)) 54)).alloc (.cells #[.int .i64 0, .int .i64 0] 56)).heap[w.heap.size + 1]? = some (.cells #[.int .i64 0, .int .i64 0] 56 (0, 0))) := heap_new _ _ _ (by simp)
  have B0 : Hid (Below w.heap.size w ((w.alloc (.cells (claV c (.slice o n cap)) 54)).alloc (.cells #[.int .i64 0, .int .i64 0] 56))) := below2 _ _ _
  have H3 := first3 had c
  rw [← hn] at H3
  have HF : Hid (firstF [whenF ((n : Int) != manyI c) 8 c.pos, whenF (had.any (fun d => d.word == c.word)) 9 c.pos, numF c 0 c.nums] = claF had c) := H3
  obtain ⟨st, hst⟩ : ∃ st, st = had.any (fun d => d.word == c.word) := ⟨_, rfl⟩
  obtain ⟨ma, hma⟩ : ∃ ma, ma = manyI c := ⟨_, rfl⟩
  obtain ⟨nf, hnf⟩ : ∃ nf, nf = numF c 0 c.nums := ⟨_, rfl⟩
  rw [← hst] at CF HF
  rw [← hma] at MA HF
  rw [← hnf] at NU HF
  clear hu ha H3 hst hma hnf hn
  go_enter Tryd.func48, Tryd.ntmps48
  go_wp2_with fail
  refine (CF.out _ B0.out b1.out).mono ?_
  rintro e w1 ⟨rfl, hb1⟩
  have r1 : w1.heap[w.heap.size]? = some (.cells (claV c (.slice o n cap)) 54 (0, 0)) := (hb1.block _ (by simp; omega)).trans b1.out
  have r2 : w1.heap[w.heap.size + 1]? = some (.cells #[.int .i64 0, .int .i64 0] 56 (0, 0)) := (hb1.block _ (by simp)).trans b2.out
  have B1 : Hid (Below w.heap.size w w1) := B0.out.trans (hb1.mono (by simp; omega))
  clear hb1 b1 b2 B0 CF
  go_wp2_with fail
  have l1 : ∀ u : Later w1, u.world.cell? ⟨w.heap.size, 1, none⟩ = some (.int .i64 c.pos) := later_cell7 r1 rfl
  have l2 : ∀ u : Later w1, u.world.cell? ⟨w.heap.size, 2, none⟩ = some (.slice o n cap) := later_cell7 r1 rfl
  have ne1 := Later.ne w1
  refine wp_region_latertail 15 (by kernel_rfl) (by kernel_rfl) ?_
  simp only [List.take_succ_cons, List.take_zero, List.drop_succ_cons, List.drop_zero]
  go_big_quiet_step (rfl)
  go_big_quiet_step (rfl)
  go_big_quiet_step (rfl)
  refine qlE (E := ClaE) ClaOk rfl _ rfl w.heap.size 0 rfl _ _ _ (claV c (.slice o n cap)) rfl (later_block r1) (own_cells _ _) ?_
  simp only [Act.put, List.setIfInBounds_toArray, List.set_cons_succ, List.set_cons_zero]
  go_big_quiet_want; go_big_quiet_op
  refine ⟨_, fun u => Calls.later_of (MA.out u.world), ?_⟩
  go_big_quiet_on
  go_big_quiet_step (rfl)
  go_big_quiet_step (rfl)
  go_big_quiet_step (rfl)
  go_big_quiet_want; go_big_quiet_op
  refine ⟨_, fun u => Calls.later_of (WH.out _ _ _ u.world), ?_⟩
  go_big_quiet_on
  go_big_quiet_step (rfl)
  go_big_quiet_step (rfl)
  go_big_quiet_step (rfl)
  go_big_quiet_want; go_big_quiet_op
  refine ⟨_, fun u => Calls.later_of (WH.out _ _ _ u.world), ?_⟩
  go_big_quiet_on
  refine qlE (E := ClaE) ClaOk rfl _ rfl w.heap.size 0 rfl _ _ _ (claV c (.slice o n cap)) rfl (later_block r1) (own_cells _ _) ?_
  simp only [Act.put, List.setIfInBounds_toArray, List.set_cons_succ, List.set_cons_zero]
  go_big_quiet_want; go_big_quiet_op
  refine ⟨_, fun u => Calls.later_of (NU.out u.world (B1.out.trans (u.below.mono B1.out.size))), ?_⟩
  go_big_quiet_on
  refine wpQuiet_nil ?_
  rintro w' ⟨u, rfl⟩
  have k2 : Hid (u.world.heap[w.heap.size + 1]? = some (.cells #[.int .i64 0, .int .i64 0] 56 (0, 0))) := later_block r2 _ ⟨u, rfl⟩
  have BU : Hid (Below w.heap.size w u.world) := B1.out.trans (u.below.mono B1.out.size)
  obtain ⟨W2, hW2⟩ : ∃ W2, W2 = u.world := ⟨_, rfl⟩
  rw [← hW2] at k2 BU ⊢
  clear hW2 l1 l2 ne1 r1 r2 B1 NU MA
  refine wl_build3F rfl _ _ _ rfl _ _ _ rfl rfl rfl ?_
  simp only [Act.put, List.setIfInBounds_toArray, List.set_cons_succ, List.set_cons_zero]
  have G3 : Hid (GSl FltE fltV (W2.alloc (.cells (gcells fltV [whenF ((n : Int) != ma) 8 c.pos, whenF st 9 c.pos, nf]).toArray 56)) (.slice (some ⟨W2.heap.size, 0, none⟩) 3 3) [whenF ((n : Int) != ma) 8 c.pos, whenF st 9 c.pos, nf]) := gsl_row (E := FltE) (C := [whenF ((n : Int) != ma) 8 c.pos, whenF st 9 c.pos, nf]) (fun _ => rfl) (heap_new _ _ _ rfl) (by show 3 ≤ _; decide)
  go_wp2_with fail
  refine (FI.out _ _ _ G3.out).mono ?_
  rintro e w3 ⟨rfl, hb3⟩
  rw [HF.out]
  have k3 : Hid (w3.heap[w.heap.size + 1]? = some (.cells #[.int .i64 0, .int .i64 0] 56 (0, 0))) := (hb3.block _ (by have := (Array.getElem?_eq_some_iff.1 k2.out).1; simp; omega)).trans (heap_past _ _ _ _ k2.out)
  have B3 : Hid (Below w.heap.size w w3) := (BU.out.alloc BU.out.size _).trans (hb3.mono (BU.out.alloc BU.out.size _).size)
  clear hb3 G3
  go_wp2_with (first
    | (refine wl_storeE (E := FltE) FltOk rfl _ _ rfl (w.heap.size + 1) (fltV (claF had c)) (flt_fits _) rfl rfl _ k3.out rfl _ rfl ?_))
  refine retE (E := FltE) FltOk rfl rfl (w.heap.size + 1) rfl (fltV (claF had c)) rfl (setRow_heap _ _ _ _ _ _ k3.out) ?_
  exact ⟨rfl, below_setRow B3.out (by omega) _⟩
end Go.Proofs.YtfamnloobmdhdaaDoor
namespace Go.Proofs.YtfamnloobmdhdaaDoor
open Go Go.RowKit
set_option maxRecDepth 20000

theorem raw_f {w : World} {b : Nat} {x : Raw} {u : Value} {ty : TypeId} {fr : Nat × Nat} (h : w.heap[b]? = some (.cells (rawV x u) ty fr)) :
    w.cell? ⟨b, 0, none⟩ = some (.int .i64 x.pos) ∧ w.cell? ⟨b, 1, none⟩ = some (.bool x.dflt) ∧ w.cell? ⟨b, 2, none⟩ = some (.int .i64 x.prio.n) ∧ w.cell? ⟨b, 4, none⟩ = some u ∧ w.cell? ⟨b, 5, none⟩ = some (.bool x.drop) ∧ w.cell? ⟨b, 6, none⟩ = some (.int .i64 x.port.n) := by
  refine ⟨?_, ?_, ?_, ?_, ?_, ?_⟩ <;> (rw [cell_of_row _ _ _ _ _ _ h]; rfl)
theorem raw_prio (x : Raw) (u : Value) : ∀ q, q < 2 → (rawV x u)[2 + q]? = (figV x.prio)[q]? := fun q hq => by
  rcases (show q = 0 ∨ q = 1 by omega) with rfl | rfl <;> rfl
theorem raw_port (x : Raw) (u : Value) : ∀ q, q < 2 → (rawV x u)[6 + q]? = (figV x.port)[q]? := fun q hq => by
  rcases (show q = 0 ∨ q = 1 by omega) with rfl | rfl <;> rfl
theorem ruleF_zero (x : Raw) : outF x.prio 0 65535 = ruleF x 0 := by
  unfold outF ruleF
  rw [List.take_zero]
  rfl
theorem NSl.take {α : Type} {E : El} {row : α → Value → Array Value} {R : World → α → Value → Prop} {w : World} {o : Option Addr} {n cap : Nat} {C : List α} (h : NSl E row R w (.slice o n cap) C) {k : Nat} (hk : k ≤ n) : NSl E row R w (.slice o k cap) (C.take k) := by
  obtain ⟨P, h1, ⟨o', cap', h2, h3, h4, h5⟩, h6⟩ := h
  simp only [Value.slice.injEq] at h2
  obtain ⟨rfl, rfl, rfl⟩ := h2
  have hl : (P.take k).length = k := by rw [List.length_take]; omega
  refine ⟨P.take k, by rw [List.map_take, h1], ⟨o, cap, by rw [hl], by rw [hl]; omega, h4, fun i hi => ?_⟩, fun p hp => h6 p (List.mem_of_mem_take hp)⟩
  rw [hl] at hi
  obtain ⟨g, off, cur, t, fr, e1, e2, e3⟩ := h5 i (by omega)
  refine ⟨g, off, cur, t, fr, e1, e2, fun j hj => ?_⟩
  rw [List.getElem_take]
  exact e3 j hj
theorem slice_to (b off n cap k : Nat) (hk : k ≤ cap) (_hm : cap ≤ 2 ^ 63 - 1) (W : World) : (Instr.sliceAt 49 (.slice (some ⟨b, off, none⟩) n cap) none (some (.int .i64 (k : Int))) none).run Tryd.prog W = .ok (.slice (some ⟨b, off, none⟩) k cap) W := by
  simp [go_sem, Tryd.underlying49]
  omega

set_option maxHeartbeats 4000000 in
theorem action7_any (x : Raw) (u : Value) (hu : ∃ o n m, u = .slice o n m) (w : World) :
    Calls Tryd.prog 49 #[.agg (rawV x u)] w fun e w' => e = .returned (.int .i64 (actOf x)) ∧ Below w.heap.size w w' := by
  obtain ⟨o, n, m, rfl⟩ := hu
  obtain ⟨-, -, -, -, c5, c6⟩ := raw_f (heap_new w (.cells (rawV x (.slice o n m)) 51) _ rfl)
  have HB : Hid (Below w.heap.size w (w.alloc (.cells (rawV x (.slice o n m)) 51))) := (Below.refl _ _).alloc (Nat.le_refl _) _
  cases hd : x.drop with
  | true =>
    rw [show actOf x = 0 by unfold actOf; rw [hd]; rfl]
    rw [hd] at c5
    go_enter Tryd.func49, Tryd.ntmps49
    go_wp2_with fail
    go_ret
    exact ⟨rfl, HB.out⟩
  | false =>
    rw [show actOf x = x.port.n by unfold actOf; rw [hd]; rfl]
    rw [hd] at c5
    go_enter Tryd.func49, Tryd.ntmps49
    go_wp2_with fail
    go_ret
    exact ⟨rfl, HB.out⟩

set_option maxHeartbeats 4000000 in
theorem actionF_any (x : Raw) (u : Value) (hu : ∃ o n m, u = .slice o n m) (w : World) :
    Calls Tryd.prog 28 #[.agg (rawV x u)] w fun e w' => e = .returned (.agg (fltV (actF x))) ∧ Below w.heap.size w w' := by
  obtain ⟨o, n, m, rfl⟩ := hu
  have OU : Hid (∀ (f : Fig) (low high : Int) W, Calls Tryd.prog 47 #[.agg (figV f), .int .i64 low, .int .i64 high] W fun x w' => x = .returned (.agg (fltV (outF f low high))) ∧ Below W.heap.size W w') := outside_any
  have b1 : Hid (((w.alloc (.cells (rawV x (.slice o n m)) 51)).alloc (.cells #[.int .i64 0, .int .i64 0] 56)).heap[w.heap.size]? = some (.cells (rawV x (.slice o n m)) 51 (0, 0))) := heap_past _ _ _ _ (heap_new _ _ _ rfl)
  have b2 : Hid (((w.alloc (.cells (rawV x (.slice o n m)) 51)).alloc (.cells #[.int .i64 0, .int .i64 0] 56)).heap[w.heap.size + 1]? = some (.cells #[.int .i64 0, .int .i64 0] 56 (0, 0))) := heap_new _ _ _ (by simp)
  have B0 : Hid (Below w.heap.size w ((w.alloc (.cells (rawV x (.slice o n m)) 51)).alloc (.cells #[.int .i64 0, .int .i64 0] 56))) := below2 _ _ _
  have c5 := (raw_f b1.out).2.2.2.2.1
  cases hd : x.drop with
  | true =>
    rw [show actF x = (0, 0) by unfold actF; rw [hd]; rfl]
    rw [hd] at c5
    go_enter Tryd.func28, Tryd.ntmps28
    go_wp2_with (first
      | (refine wl_storeE (E := FltE) FltOk rfl _ _ rfl (w.heap.size + 1) (fltV (0, 0)) (flt_fits _) rfl rfl _ b2.out rfl _ rfl ?_))
    refine retE (E := FltE) FltOk rfl rfl (w.heap.size + 1) rfl (fltV (0, 0)) rfl (setRow_heap _ _ _ _ _ _ b2.out) ?_
    exact ⟨rfl, below_setRow B0.out (by omega) _⟩
  | false =>
    rw [show actF x = outF x.port 1 99 by unfold actF outF; rw [hd]; rfl]
    rw [hd] at c5
    go_enter Tryd.func28, Tryd.ntmps28
    go_wp2_with (first
      | (refine wl_loadE (E := FigE) FigOk rfl _ rfl w.heap.size 6 rfl _ _ _ (figV x.port) rfl b1.out (raw_port x _) ?_))
    refine (OU.out _ _ _ _).mono ?_
    rintro e w1 ⟨rfl, hb1⟩
    have k2 : Hid (w1.heap[w.heap.size + 1]? = some (.cells #[.int .i64 0, .int .i64 0] 56 (0, 0))) := (hb1.block _ (by simp)).trans b2.out
    have B1 : Hid (Below w.heap.size w w1) := B0.out.trans (hb1.mono (by simp; omega))
    clear hb1
    go_wp2_with (first
      | (refine wl_storeE (E := FltE) FltOk rfl _ _ rfl (w.heap.size + 1) (fltV (outF x.port 1 99)) (flt_fits _) rfl rfl _ k2.out rfl _ rfl ?_))
    refine retE (E := FltE) FltOk rfl rfl (w.heap.size + 1) rfl (fltV (outF x.port 1 99)) rfl (setRow_heap _ _ _ _ _ _ k2.out) ?_
    exact ⟨rfl, below_setRow B1.out (by omega) _⟩

set_option maxHeartbeats 8000000 in
theorem ruleF_any (x : Raw) (u : Value) (w : World) (hu : ClasAt w x u) :
    Calls Tryd.prog 27 #[.agg (rawV x u)] w fun e w' => e = .returned (.agg (fltV (lineF x))) ∧ Below w.heap.size w w' := by
  have OU : Hid (∀ (f : Fig) (low high : Int) W, Calls Tryd.prog 47 #[.agg (figV f), .int .i64 low, .int .i64 high] W fun x w' => x = .returned (.agg (fltV (outF f low high))) ∧ Below W.heap.size W w') := outside_any
  have CL : Hid (∀ (had : List Cla) (c : Cla) (u va : Value) W, FigsAt W c u → NSl ClaE claV FigsAt W va had → Calls Tryd.prog 48 #[.agg (claV c u), va] W fun x w' => x = .returned (.agg (fltV (claF had c))) ∧ Below W.heap.size W w') := clauseF_any
  obtain ⟨o, cap, rfl, hc1, hc2⟩ := NSl.slice hu
  obtain ⟨n, hn⟩ : ∃ n, n = x.clauses.length := ⟨_, rfl⟩
  have HN : Hid (n = x.clauses.length) := hn
  rw [← hn] at hu hc1 ⊢
  have HU : Hid (ClasAt w x (.slice o n cap)) := hu
  unfold maxLen at hc2
  have b1 : Hid (((w.alloc (.cells (rawV x (.slice o n cap)) 51)).alloc (.cells #[.int .i64 0, .int .i64 0] 56)).heap[w.heap.size]? = some (.cells (rawV x (.slice o n cap)) 51 (0, 0))) := heap_past _ _ _ _ (heap_new _ _ _ rfl)
  have b2 : Hid (((w.alloc (.cells (rawV x (.slice o n cap)) 51)).alloc (.cells #[.int .i64 0, .int .i64 0] 56)).heap[w.heap.size + 1]? = some (.cells #[.int .i64 0, .int .i64 0] 56 (0, 0))) := heap_new _ _ _ (by simp)
  have B0 : Hid (Below w.heap.size w ((w.alloc (.cells (rawV x (.slice o n cap)) 51)).alloc (.cells #[.int .i64 0, .int .i64 0] 56))) := below2 _ _ _
  have c1 := (raw_f b1.out).2.1
  clear hu hn
  cases hd : x.dflt with
  | true =>
    rw [show lineF x = (0, 0) by unfold lineF; rw [hd]; rfl]
    rw [hd] at c1
    go_enter Tryd.func27, Tryd.ntmps27
    go_wp2_with (first
      | (refine wl_storeE (E := FltE) FltOk rfl _ _ rfl (w.heap.size + 1) (fltV (0, 0)) (flt_fits _) rfl rfl _ b2.out rfl _ rfl ?_))
    refine retE (E := FltE) FltOk rfl rfl (w.heap.size + 1) rfl (fltV (0, 0)) rfl (setRow_heap _ _ _ _ _ _ b2.out) ?_
    exact ⟨rfl, below_setRow B0.out (by omega) _⟩
  | false =>
    have HL : Hid (lineF x = ruleF x n) := by
      show _ = _
      rw [HN.out, ruleF_all]
      unfold lineF
      rw [hd]; rfl
    rw [hd] at c1
    have HD : Hid (x.dflt = false) := hd
    have ST : Hid (∀ k, (ruleF x k).1 ≠ 0 → ruleF x n = ruleF x k) := fun k h => by rw [HN.out]; exact ruleF_stays h
    have NX : Hid (∀ (k : Nat) c, x.clauses[k]? = some c → (ruleF x k).1 = 0 → claF (x.clauses.take k) c = ruleF x (k + 1)) := fun k c h1 h2 => (ruleF_next h1 h2).symm
    clear hd
    go_enter Tryd.func27, Tryd.ntmps27
    go_wp2_with (first
      | (refine wl_loadE (E := FigE) FigOk rfl _ rfl w.heap.size 2 rfl _ _ _ (figV x.prio) rfl b1.out (raw_prio x _) ?_))
    refine (OU.out _ _ _ _).mono ?_
    rintro e w1 ⟨rfl, hb1⟩
    rw [ruleF_zero]
    have k1 : Hid (w1.heap[w.heap.size]? = some (.cells (rawV x (.slice o n cap)) 51 (0, 0))) := (hb1.block _ (by simp; omega)).trans b1.out
    have k2 : Hid (w1.heap[w.heap.size + 1]? = some (.cells #[.int .i64 0, .int .i64 0] 56 (0, 0))) := (hb1.block _ (by simp)).trans b2.out
    have B1 : Hid (Below w.heap.size w w1) := B0.out.trans (hb1.mono (by simp; omega))
    clear hb1 b1 b2 B0 c1
    obtain ⟨G, hG⟩ : ∃ G, G = w1.heap.size := ⟨_, rfl⟩
    have hGw : w.heap.size + 1 < G := by rw [hG]; exact (Array.getElem?_eq_some_iff.1 k2.out).1
    have HG : Hid (G = w1.heap.size) := hG
    have KA : Hid ((w1.alloc (.cells (fltV (ruleF x 0)) 56)).heap[G]? = some (.cells (fltV (ruleF x 0)) 56 (0, 0)) ∧ (w1.alloc (.cells (fltV (ruleF x 0)) 56)).heap[w.heap.size]? = some (.cells (rawV x (.slice o n cap)) 51 (0, 0)) ∧ (w1.alloc (.cells (fltV (ruleF x 0)) 56)).heap[w.heap.size + 1]? = some (.cells #[.int .i64 0, .int .i64 0] 56 (0, 0)) ∧ Below w.heap.size w (w1.alloc (.cells (fltV (ruleF x 0)) 56))) := ⟨heap_new _ _ _ hG, heap_past _ _ _ _ k1.out, heap_past _ _ _ _ k2.out, B1.out.alloc B1.out.size _⟩
    go_wp2_with (first
      | (refine wl_storeE (E := FltE) FltOk rfl _ _ rfl w1.heap.size (fltV (ruleF x 0)) (flt_fits _) rfl rfl _ (heap_new _ _ _ rfl) rfl _ (setRow_new _ _ _ _ _ rfl) ?_))
    rw [← hG]
    clear hG
    go_loopw [4] (fun i wr => ∃ k : Nat, k ≤ n ∧ i = .int .i64 (k : Int) ∧ wr.heap[G]? = some (.cells (fltV (ruleF x k)) 56 (0, 0)) ∧ wr.heap[w.heap.size]? = some (.cells (rawV x (.slice o n cap)) 51 (0, 0)) ∧ wr.heap[w.heap.size + 1]? = some (.cells #[.int .i64 0, .int .i64 0] 56 (0, 0)) ∧ Below w.heap.size w wr) (fun i _ => n - (intOf i).toNat)
    case atStart => exact ⟨0, Nat.zero_le _, rfl, KA.out.1, KA.out.2.1, KA.out.2.2.1, KA.out.2.2.2⟩
    case round =>
      clear KA k1 k2 B1
      obtain ⟨k, hk, rfl, hr0, hr1, hr2, hb⟩ := hrel
      have R0 : Hid (wr.heap[G]? = some (.cells (fltV (ruleF x k)) 56 (0, 0))) := hr0
      have R1 : Hid (wr.heap[w.heap.size]? = some (.cells (rawV x (.slice o n cap)) 51 (0, 0))) := hr1
      have R2 : Hid (wr.heap[w.heap.size + 1]? = some (.cells #[.int .i64 0, .int .i64 0] 56 (0, 0))) := hr2
      have HB : Hid (Below w.heap.size w wr) := hb
      have f0 : wr.cell? ⟨G, 0, none⟩ = some (.int .i64 (ruleF x k).1) := by rw [cell_of_row _ _ _ _ _ _ R0.out]; rfl
      have f4 := (raw_f R1.out).2.2.2.1
      clear hr0 hr1 hr2 hb
      have fin : ∀ F, ruleF x n = F → wr.heap[G]? = some (.cells (fltV F) 56 (0, 0)) → lineF x = F := fun F h _ => by rw [HL.out]; exact h
      by_cases hlt : k < n
      · have hlt' : (k : Int) < (n : Int) := by omega
        by_cases hz : (ruleF x k).1 = 0
        · have hz' : ((ruleF x k).1 == 0) = true := by simp [hz]
          obtain ⟨g, off, cur, ty, fr, c, u', rfl, hg, hc, hCk, hcl⟩ := NSl.at (NSl.below figs_below HU.out HB.out) k hlt
          have HNX := NX.out k c hCk hz
          have CC : Hid (∀ W, Below wr.heap.size wr W → Calls Tryd.prog 48 #[.agg (claV c u'), .slice (some ⟨g, off, none⟩) k cap] W fun x1 w' => x1 = .returned (.agg (fltV (ruleF x (k + 1)))) ∧ Below W.heap.size W w') := fun W hbW => by
            have := CL.out (x.clauses.take k) c u' (.slice (some ⟨g, off, none⟩) k cap) W (figs_below _ _ _ _ hbW hcl) (NSl.below figs_below (NSl.take (NSl.below figs_below HU.out HB.out) (by omega)) hbW)
            rwa [HNX] at this
          have hsl := fun W => slice_to g off n cap k (by omega) hc2 W
          have k1 : wr.heap[g]? = some (.cells cur ty fr) := hg
          have H1 : Hid (∀ i, i < 5 → cur[off + k * 5 + i]? = (claV c u')[i]?) := hc
          have l4 : ∀ u : Later wr, u.world.cell? ⟨w.heap.size, 4, none⟩ = some (.slice (some ⟨g, off, none⟩) n cap) := later_cell7 R1.out rfl
          clear hg hc hCk hcl HNX fin
          go_wp2_with fail
          have ne1 := Later.ne wr
          refine wp_region_latertail 10 (by kernel_rfl) (by kernel_rfl) ?_
          simp only [List.take_succ_cons, List.take_zero, List.drop_succ_cons, List.drop_zero]
          go_big_quiet_step (rfl)
          go_big_quiet_step (rfl)
          go_big_quiet_step (rfl)
          go_big_quiet_step (rfl)
          refine qlE (E := ClaE) ClaOk rfl _ rfl g (off + k * 5) rfl cur ty fr (claV c u') rfl (later_block k1) H1.out ?_
          simp only [Act.put, List.setIfInBounds_toArray, List.set_cons_succ, List.set_cons_zero]
          go_big_quiet_step (rfl)
          go_big_quiet_step (rfl)
          go_big_quiet_step (rfl)
          go_big_quiet_step (rfl)
          go_big_quiet_want; go_big_quiet_op
          refine ⟨_, fun u => Calls.later_of (CC.out u.world u.below), ?_⟩
          go_big_quiet_on
          refine wpQuiet_nil ?_
          rintro w' ⟨v, rfl⟩
          have q0 : Hid (v.world.heap[G]? = some (.cells (fltV (ruleF x k)) 56 (0, 0))) := later_block R0.out _ ⟨v, rfl⟩
          have q1 : Hid (v.world.heap[w.heap.size]? = some (.cells (rawV x (.slice (some ⟨g, off, none⟩) n cap)) 51 (0, 0))) := later_block R1.out _ ⟨v, rfl⟩
          have q2 : Hid (v.world.heap[w.heap.size + 1]? = some (.cells #[.int .i64 0, .int .i64 0] 56 (0, 0))) := later_block R2.out _ ⟨v, rfl⟩
          have BV : Hid (Below w.heap.size w v.world) := HB.out.trans (v.below.mono HB.out.size)
          obtain ⟨W2, hW2⟩ : ∃ W2, W2 = v.world := ⟨_, rfl⟩
          rw [← hW2] at q0 q1 q2 BV ⊢
          clear hW2 l4 ne1 k1 R0 R1 R2 f0 f4
          go_wp2_with (first
            | (refine wl_storeE (E := FltE) FltOk rfl _ _ rfl G (fltV (ruleF x (k + 1))) (flt_fits _) rfl rfl _ q0.out rfl _ rfl ?_))
          go_roundw
          case rel => exact ⟨k + 1, by omega, by go_num, setRow_heap _ _ _ _ _ _ q0.out, (setRow_other _ _ _ _ (by omega)).trans q1.out, (setRow_other _ _ _ _ (by omega)).trans q2.out, below_setRow BV.out (by omega) _⟩
          case measure => simp [intOf]; omega
        · have hz' : ((ruleF x k).1 == 0) = false := by simp [hz]
          have hfin : Hid (lineF x = ruleF x k) := by rw [HL.out]; exact ST.out k hz
          clear hz fin
          go_wp2_with (first
            | (refine wl_loadE (E := FltE) FltOk rfl _ rfl G 0 rfl _ _ _ (fltV (ruleF x k)) rfl R0.out (own_cells _ _) ?_)
            | (refine wl_storeE (E := FltE) FltOk rfl _ _ rfl (w.heap.size + 1) (fltV (ruleF x k)) (flt_fits _) rfl rfl _ R2.out rfl _ rfl ?_))
          refine retE (E := FltE) FltOk rfl rfl (w.heap.size + 1) rfl (fltV (ruleF x k)) rfl (setRow_heap _ _ _ _ _ _ R2.out) ?_
          exact ⟨by rw [hfin.out], below_setRow HB.out (by omega) _⟩
      · have hlt' : ¬ (k : Int) < (n : Int) := by omega
        have hlt2 : decide ((k : Int) < (n : Int)) = false := by simp; omega
        obtain rfl : k = n := by omega
        clear hlt fin
        go_wp2_with (first
          | (refine wl_loadE (E := FltE) FltOk rfl _ rfl G 0 rfl _ _ _ (fltV (ruleF x k)) rfl R0.out (own_cells _ _) ?_)
          | (refine wl_storeE (E := FltE) FltOk rfl _ _ rfl (w.heap.size + 1) (fltV (ruleF x k)) (flt_fits _) rfl rfl _ R2.out rfl _ rfl ?_))
        refine retE (E := FltE) FltOk rfl rfl (w.heap.size + 1) rfl (fltV (ruleF x k)) rfl (setRow_heap _ _ _ _ _ _ R2.out) ?_
        exact ⟨by rw [HL.out], below_setRow HB.out (by omega) _⟩
end Go.Proofs.YtfamnloobmdhdaaDoor
namespace Go.Proofs.YtfamnloobmdhdaaDoor
open Go Go.RowKit

end Go.Proofs.YtfamnloobmdhdaaDoor
namespace Go.Proofs.YtfamnloobmdhdaaDoor
open Go Go.RowKit

end Go.Proofs.YtfamnloobmdhdaaDoor
namespace Go.Proofs.YtfamnloobmdhdaaDoor
open Go Go.RowKit

end Go.Proofs.YtfamnloobmdhdaaDoor
namespace Go.Proofs.YtfamnloobmdhdaaDoor
open Go Go.RowKit

end Go.Proofs.YtfamnloobmdhdaaDoor
namespace Go.Proofs.YtfamnloobmdhdaaDoor
open Go Go.RowKit

theorem or_byte (a b : Int) (ha0 : 0 ≤ a) (ha : a < 16777216) (hb0 : 0 ≤ b) (hb : b < 256) : bits .or .u32 (a * 256 % 4294967296) (b % 4294967296) = a * 256 + b := by
  rw [show a * 256 % 4294967296 = a * 256 by omega, show b % 4294967296 = b by omega]
  exact bits_join .u32 32 (by decide) (fun n h0 h1 => by rw [IntKind.wrap_u32]; omega) 8 (a * 256) b (by omega) (by omega) (by omega) hb0 (by omega) (by omega)

/-- The number that the first k bytes behind 'at0' make. -/
def getN (L : List Int) (at0 : Nat) : Nat → Int
  | 0 => 0
  | k + 1 => getN L at0 k * 256 + L.getD (at0 + k) 0
theorem getN_bd (L : List Int) (hL : Byt L) (at0 : Nat) (k : Nat) : 0 ≤ getN L at0 k ∧ getN L at0 k < 256 ^ k := by
  induction k with
  | zero => simp [getN]
  | succ k ih =>
    have := hL.2 (at0 + k)
    simp only [getN, Int.pow_succ]
    omega

set_option maxHeartbeats 1000000 in
theorem get_any (L : List Int) (hL : Byt L) (at0 size : Nat) (w : World) (hs : at0 + size ≤ 13) (hs4 : size ≤ 4) :
    Calls Tryd.prog 81 #[.agg (hv L), .int .i64 at0, .int .i64 size] w fun e w' => e = .returned (.int .u32 (getN L at0 size)) ∧ w' = w.alloc (.cells (hv L) 37) := by
  have hl := hL.1
  go_enter Tryd.func81, Tryd.ntmps81
  go_wp2
  go_loop [7, 10] (fun v i => ∃ k : Nat, k ≤ size ∧ i = .int .i64 k ∧ v = .int .u32 (getN L at0 k)) (fun _ i => size - (intOf i).toNat)
  case atStart => exact ⟨0, Nat.zero_le _, rfl, rfl⟩
  case round =>
    obtain ⟨k, hk, rfl, rfl⟩ := hrel
    have hb := getN_bd L hL at0 k
    by_cases hlt : k < size
    · have hc := hv_at L hl (at0 + k) (by omega)
      have hx := hL.2 (at0 + k)
      go_wp2
      go_round
      case rel =>
        refine ⟨k + 1, by omega, by go_num, ?_⟩
        have h24 : getN L at0 k < 16777216 := by
          have : (256 : Int) ^ k ≤ 256 ^ 3 := by
            rcases (show k = 0 ∨ k = 1 ∨ k = 2 ∨ k = 3 by omega) with h | h | h | h <;> subst h <;> decide
          have h2 : (256 : Int) ^ 3 = 16777216 := by decide
          omega
        have he := or_byte (getN L at0 k) (L.getD (at0 + k) 0) hb.1 h24 hx.1 hx.2
        rw [show L[at0 + k]?.getD 0 = L.getD (at0 + k) 0 from rfl, he]
        rfl
      case measure => simp [intOf]; omega
    · obtain rfl : k = size := by omega
      go_wp2
      go_ret
      exact ⟨rfl, rfl⟩
end Go.Proofs.YtfamnloobmdhdaaDoor
namespace Go.Proofs.YtfamnloobmdhdaaDoor
open Go Go.RowKit
set_option maxRecDepth 20000

theorem nth_q {c : Cla} {k : Nat} {f : Fig} (h : c.nums[k]? = some f) : nth c k = f.n := by unfold nth; rw [List.getD_eq_getElem?_getD, h]; rfl
def preN (c : Cla) : Nat → Int
  | 0 => 0
  | k + 1 => preN c k * 256 + nth c k
theorem preN_bd (c : Cla) (h : ∀ k, k < 4 → 0 ≤ nth c k ∧ nth c k ≤ 255) : ∀ k, k ≤ 4 → 0 ≤ preN c k ∧ preN c k < 256 ^ k
  | 0, _ => by simp [preN]
  | k + 1, hk => by
    have := preN_bd c h k (by omega)
    have h2 := h k (by omega)
    simp only [preN, Int.pow_succ]
    omega
theorem preN_four (c : Cla) : preN c 4 = (preC c).1 := by
  unfold preC
  simp only [preN]
  omega
theorem slice_four (b off n cap : Nat) (hk : 4 ≤ cap) (_hm : cap ≤ 2 ^ 63 - 1) (W : World) : (Instr.sliceAt 52 (.slice (some ⟨b, off, none⟩) n cap) none (some (.int .i64 4)) none).run Tryd.prog W = .ok (.slice (some ⟨b, off, none⟩) 4 cap) W := by
  simp [go_sem, Tryd.underlying52]
  omega
set_option maxHeartbeats 4000000 in
theorem prefix_any (c : Cla) (u : Value) (w : World) (hu : FigsAt w c u) (hl : c.nums.length = if c.slash then 5 else 4) (hb4 : ∀ k, k < 4 → 0 ≤ nth c k ∧ nth c k ≤ 255) :
    Calls Tryd.prog 50 #[.agg (claV c u)] w fun x w' => x = .returned (.tuple #[.int .u32 (preC c).1, .int .i64 (preC c).2]) ∧ Below w.heap.size w w' := by
  obtain ⟨o, cap, rfl, hc1, hc2⟩ := GSl.slice hu
  obtain ⟨n, hn⟩ : ∃ n, n = c.nums.length := ⟨_, rfl⟩
  have h4n : 4 ≤ n := by rw [hn, hl]; split <;> omega
  rw [← hn] at hu hc1 hl ⊢
  have HU : Hid (FigsAt w c (.slice o n cap)) := hu
  obtain ⟨g, off, cur, ty, fr, f0, rfl, hg, -, -⟩ := hu.at 0 (by omega)
  have HG : Hid (w.heap[g]? = some (.cells cur ty fr)) := hg
  unfold maxLen at hc2
  have hsl := fun W => slice_four g off n cap (by omega) hc2 W
  have BD : Hid (∀ k, k ≤ 4 → 0 ≤ preN c k ∧ preN c k < 256 ^ k) := preN_bd c hb4
  have H4 : Hid (∀ k, k < 4 → 0 ≤ nth c k ∧ nth c k ≤ 255) := hb4
  have b1 : Hid ((w.alloc (.cells (claV c (.slice (some ⟨g, off, none⟩) n cap)) 54)).heap[w.heap.size]? = some (.cells (claV c (.slice (some ⟨g, off, none⟩) n cap)) 54 (0, 0))) := heap_new _ _ _ rfl
  have c2 := (cla_f b1.out).2.2.1
  have HE : Hid (preN c 4 = (preC c).1) := preN_four c
  have HS : Hid ((preC c).2 = if c.slash then nth c 4 else 32) := rfl
  have HNL : Hid (n = if c.slash then 5 else 4) := hl
  clear hu hg hn hb4 hl
  go_enter Tryd.func50, Tryd.ntmps50
  go_wp2_with fail
  clear c2
  go_loopw [4, 11] (fun v i wr => ∃ k : Nat, k ≤ 4 ∧ i = .int .i64 (k : Int) ∧ v = .int .u32 (preN c k) ∧ wr.heap[w.heap.size]? = some (.cells (claV c (.slice (some ⟨g, off, none⟩) n cap)) 54 (0, 0)) ∧ Below w.heap.size w wr) (fun _ i _ => 4 - (intOf i).toNat)
  case atStart => exact ⟨0, Nat.zero_le _, rfl, rfl, b1.out, (Below.refl _ _).alloc (Nat.le_refl _) _⟩
  case round =>
    clear b1
    obtain ⟨k, hk, rfl, rfl, hr1, hb⟩ := hrel
    have R1 : Hid (wr.heap[w.heap.size]? = some (.cells (claV c (.slice (some ⟨g, off, none⟩) n cap)) 54 (0, 0))) := hr1
    have HB : Hid (Below w.heap.size w wr) := hb
    clear hr1 hb
    by_cases hlt : k < 4
    · obtain ⟨g', off', cur', ty', fr', f, e0, hg, hc, hFj⟩ := HU.out.at k (by omega)
      simp only [Option.some.injEq, Addr.mk.injEq, and_true] at e0
      obtain ⟨rfl, rfl⟩ := e0
      have K1 : Hid (wr.heap[g]? = some (.cells cur' ty' fr')) := (HB.out.block g (Array.getElem?_eq_some_iff.1 hg).1).trans hg
      have H1 : Hid (∀ q, q < 2 → cur'[off + k * 2 + q]? = (figV f)[q]?) := hc
      have hnk := nth_q hFj
      have hx := H4.out k hlt
      rw [hnk] at hx
      have HST : Hid (preN c (k + 1) = preN c k * 256 + f.n) := by rw [← hnk]; exact rfl
      have hp := BD.out k (by omega)
      have hp24 : preN c k < 16777216 := by
        have : (256 : Int) ^ k ≤ 256 ^ 3 := by
          rcases (show k = 0 ∨ k = 1 ∨ k = 2 ∨ k = 3 by omega) with h | h | h | h <;> subst h <;> decide
        have h2 : (256 : Int) ^ 3 = 16777216 := by decide
        omega
      have HOR : Hid (bits .or .u32 (preN c k * 256) f.n = preN c k * 256 + f.n) := by
        have h := or_byte (preN c k) f.n hp.1 hp24 hx.1 (by omega)
        rw [show preN c k * 256 % 4294967296 = preN c k * 256 by omega, show f.n % 4294967296 = f.n by omega] at h
        exact h
      obtain ⟨pk, hpk⟩ : ∃ pk, pk = preN c k := ⟨_, rfl⟩
      rw [← hpk] at HST HOR hp24 ⊢
      have hp0 : 0 ≤ pk := by rw [hpk]; exact hp.1
      have n0 : (wr.alloc (.cells (figV f) 48)).cell? ⟨wr.heap.size, 0, none⟩ = some (.int .i64 f.n) := by rw [cell_of_row _ _ _ _ _ _ (heap_new wr (.cells (figV f) 48) _ rfl)]; rfl
      have hlt' : (k : Int) < 4 := by omega
      have hx0 := hx.1
      have hx1 : f.n < 256 := by omega
      clear hg hc hFj hnk hp hpk hx
      go_wp2_with (first
        | (refine wl_loadE (E := FigE) FigOk rfl _ rfl g (off + k * 2) rfl cur' ty' fr' (figV f) rfl K1.out H1.out ?_)
        | (refine wl_storeE (E := FigE) FigOk rfl _ _ rfl wr.heap.size (figV f) (fig_fits _) rfl rfl _ (heap_new _ _ _ rfl) rfl _ (setRow_new _ _ _ _ _ rfl) ?_))
      go_roundw
      case rel =>
        refine ⟨k + 1, by omega, by go_num, ?_, heap_past _ _ _ _ R1.out, HB.out.alloc HB.out.size _⟩
        rw [HST.out, HOR.out]
      case measure => simp [intOf]; omega
    · obtain rfl : k = 4 := by omega
      have hlt' : ¬ (4 : Int) < 4 := by omega
      have c3 := (cla_f R1.out).2.2.2.1
      cases hs : c.slash with
      | false =>
        rw [hs] at c3 HS
        have hend : ¬ (((4 : Nat) : Int) < 4) := by omega
        clear hlt
        go_wp2_with fail
        go_ret2
        refine ⟨?_, HB.out⟩
        rw [HE.out, HS.out]
        rfl
      | true =>
        rw [hs] at c3 HS HNL
        have h5 : n = 5 := HNL.out
        obtain ⟨g', off', cur', ty', fr', f, e0, hg, hc, hFj⟩ := HU.out.at 4 (by omega)
        simp only [Option.some.injEq, Addr.mk.injEq, and_true] at e0
        obtain ⟨rfl, rfl⟩ := e0
        have l2 : ∀ u : Later wr, u.world.cell? ⟨w.heap.size, 2, none⟩ = some (.slice (some ⟨g, off, none⟩) n cap) := later_cell7 R1.out rfl
        have lg : ∀ u : Later wr, u.world.cell? ⟨g, off + 8, none⟩ = some (.int .i64 f.n) := by
          have hh : wr.heap[g]? = some (.cells cur' ty' fr') := (HB.out.block g (Array.getElem?_eq_some_iff.1 hg).1).trans hg
          refine later_cell7 hh ?_
          have := hc 0 (by decide)
          exact this
        have hnk := nth_q hFj
        have hS2 : (preC c).2 = f.n := by rw [HS.out, if_pos rfl, hnk]
        have HS2 : Hid ((preC c).2 = f.n) := hS2
        subst h5
        clear hlt hg hc hFj hnk hS2
        go_wp2_with fail
        have ne1 := Later.ne wr
        refine wp_region_later (by kernel_rfl) (by kernel_rfl) ?_
        repeat go_big_quiet_step (rfl)
        refine wpQuiet_nil ?_
        rintro w' ⟨v, rfl⟩
        go_wp2_with fail
        go_ret2
        refine ⟨?_, HB.out.trans (v.below.mono HB.out.size)⟩
        rw [HE.out, HS2.out]
        rfl

set_option maxHeartbeats 4000000 in
theorem ports7_any (c : Cla) (u : Value) (w : World) (hu : FigsAt w c u) (hl : 0 < c.nums.length) :
    Calls Tryd.prog 51 #[.agg (claV c u)] w fun x w' => x = .returned (.tuple #[.int .i64 (porC c).1, .int .i64 (porC c).2]) ∧ Below w.heap.size w w' := by
  obtain ⟨o, cap, rfl, hc1, hc2⟩ := GSl.slice hu
  unfold porC
  obtain ⟨n, hn⟩ : ∃ n, n = c.nums.length := ⟨_, rfl⟩
  rw [← hn] at hu hc1 hl ⊢
  obtain ⟨g, off, cur, ty, fr, f, rfl, hg, hc, hF⟩ := hu.at 0 hl
  obtain ⟨g', off', cur', ty', fr', f', e0, hg', hc', hF'⟩ := hu.at (n - 1) (by omega)
  simp only [Option.some.injEq, Addr.mk.injEq, and_true] at e0
  obtain ⟨rfl, rfl⟩ := e0
  rw [nth_q hF, nth_q hF']
  unfold maxLen at hc2
  obtain ⟨Wa, hWa⟩ : ∃ Wa, Wa = w.alloc (.cells (claV c (.slice (some ⟨g, off, none⟩) n cap)) 54) := ⟨_, rfl⟩
  have b1 : Wa.heap[w.heap.size]? = some (.cells (claV c (.slice (some ⟨g, off, none⟩) n cap)) 54 (0, 0)) := by rw [hWa]; exact heap_new _ _ _ rfl
  have BA : Hid (Below w.heap.size w Wa) := by rw [hWa]; exact (Below.refl _ _).alloc (Nat.le_refl _) _
  have l2 : ∀ u : Later Wa, u.world.cell? ⟨w.heap.size, 2, none⟩ = some (.slice (some ⟨g, off, none⟩) n cap) := later_cell7 b1 rfl
  have lg : ∀ u : Later Wa, u.world.cell? ⟨g, off, none⟩ = some (.int .i64 f.n) := later_cell7 (by rw [hWa]; exact heap_past _ _ _ _ hg) (by
    have := hc 0 (by decide)
    rw [show off + 0 * FigE.size + 0 = off by simp] at this
    exact this)
  have lg' : ∀ u : Later Wa, u.world.cell? ⟨g, off + (n - 1) * 2, none⟩ = some (.int .i64 f'.n) := later_cell7 (by rw [hWa]; exact heap_past _ _ _ _ hg') (by
    have := hc' 0 (by decide)
    exact this)
  have hn1 : ((n : Int) - 1).toNat = n - 1 := by omega
  have hp1 : (0 : Int) ≤ (n : Int) - 1 := by omega
  have hp2 : (n : Int) - 1 < (n : Int) := by omega
  have hp0 : (0 : Int) < (n : Int) := by omega
  have hix : ∀ W, (Instr.indexAt 52 (.slice (some ⟨g, off, none⟩) n cap) (.int .i64 ((n : Int) - 1))).run Tryd.prog W = .ok (.pointer (some ⟨g, off + (n - 1) * 2, none⟩)) W := fun W => by
    simp [go_sem, Tryd.underlying52]
    omega
  clear hu hg hc hF hg' hc' hF' hn b1
  go_enter Tryd.func51, Tryd.ntmps51
  go_wp2_with fail
  rw [← hWa]
  have ne1 := Later.ne Wa
  refine wp_region_later (by kernel_rfl) (by kernel_rfl) ?_
  repeat go_big_quiet_step (rfl)
  refine wpQuiet_nil ?_
  rintro w' ⟨v, rfl⟩
  go_wp2_with fail
  go_ret2
  exact ⟨rfl, BA.out.trans (v.below.mono BA.out.size)⟩
end Go.Proofs.YtfamnloobmdhdaaDoor
