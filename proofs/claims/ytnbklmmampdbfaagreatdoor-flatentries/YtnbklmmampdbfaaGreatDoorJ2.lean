import Derived.Test.YtnbklmmampdbfaaGreatDoorJ1
import Derived.Lib.BitFns
import Derived.Great.BuildSlice
import Derived.Laws.AppendOwn
import Derived.Laws.OwnMore
import Derived.WalkMore
import Derived.Laws.BitsLemmas
import Derived.Shelf.Small.Bits
import Derived.Test.YtnbklmmampdbfaaGreatDoorProg
import Derived.Laws.ResultCell
import Derived.Maps.AppendAt
import Derived.OwnWalk
import Derived.Laws.AppendOwnNone
namespace Go.Proofs.YtnbklmmampdbfaaGreatDoor
open Go Go.RowKit
set_option maxRecDepth 20000

/-- Two reads, then two stores; the second read may come behind the first store. -/
def twoB (ops : Array Oper) (n : Nat) : Bool :=
  let l := Array.replicate ops.size false
  decide (Region.ready .any ops l = [0, 1]) && decide (Region.ready .any ops (l.setIfInBounds 0 true) = [1, 2]) && decide (Region.ready .any ops (l.setIfInBounds 1 true) = [0]) &&
  decide (Region.ready .any ops ((l.setIfInBounds 0 true).setIfInBounds 1 true) = [2]) && decide (Region.ready .any ops ((l.setIfInBounds 0 true).setIfInBounds 2 true) = [1]) &&
  Region.seqB .any ops n 3 (((l.setIfInBounds 0 true).setIfInBounds 1 true).setIfInBounds 2 true) && decide (ops.size = n + 3)

theorem any_step {P : Program} {md : Region.Mode} {ops : Array Oper} {Q : Exit → Act → World → Prop} {fuel : Nat} {listed : Array Bool} {a : Act} {w : World} (rs : List Nat) (hr : Region.ready md ops listed = rs) (hne : rs ≠ [])
    (h : ∀ i ∈ rs, wpOp P ops Q i (wpAny P md ops Q fuel (listed.setIfInBounds i true)) a w) : wpAny P md ops Q (fuel + 1) listed a w :=
  ⟨fun h0 => absurd (hr.symm.trans h0) hne, fun i hi => h i (hr ▸ hi)⟩
theorem wpOp_value {P : Program} {ops : Array Oper} {Q : Exit → Act → World → Prop} {i : Nat} {o : Oper} {K : Act → World → Prop} {a : Act} {w w' : World} {v : Value} (hi : ops[i]? = some o) (hg : o.guard = none) (hr : (execOp a.eval o).run P w = .ok (.value v) w') (h : K (a.put o.dst v) w') : wpOp P ops Q i K a w := by
  have hw : Region.wanted o (yielded ops a.tmps) = true := by unfold Region.wanted; rw [hg]
  unfold Go.wpOp
  simp only [hi, hw, if_true]
  left
  unfold Oper.wp
  rw [hr]
  exact h
theorem wpOp_skip {P : Program} {ops : Array Oper} {Q : Exit → Act → World → Prop} {i : Nat} {o : Oper} {K : Act → World → Prop} {a : Act} {w w' : World} (hi : ops[i]? = some o) (hg : o.guard = none) (hr : (execOp a.eval o).run P w = .ok .skip w') (h : K (a.put o.dst undef) w') : wpOp P ops Q i K a w := by
  have hw : Region.wanted o (yielded ops a.tmps) = true := by unfold Region.wanted; rw [hg]
  unfold Go.wpOp
  simp only [hi, hw, if_true]
  left
  unfold Oper.wp
  rw [hr]
  exact h

theorem wp_region_two {P : Program} {id : Nat} {Q : Exit → Act → World → Prop} {a : Act} {w w' : World} {o0 o1 o2 : Oper} {rest : List Oper} {v0 v1 : Value} (hm : P.follows .mixedOrders = true)
    (hB : twoB (o0 :: o1 :: o2 :: rest).toArray rest.length = true) (q0 : o0.guard = none) (q1 : o1.guard = none) (q2 : o2.guard = none) (q3 : o2.dst = none)
    (e0 : (execOp a.eval o0).run P w.drew = .ok (.value v0) w.drew) (e0' : (execOp (a.put o1.dst v1).eval o0).run P w.drew = .ok (.value v0) w.drew)
    (e1 : (execOp a.eval o1).run P w.drew = .ok (.value v1) w.drew) (e1a : (execOp (a.put o0.dst v0).eval o1).run P w.drew = .ok (.value v1) w.drew) (e1b : (execOp (a.put o0.dst v0).eval o1).run P w' = .ok (.value v1) w')
    (e2 : (execOp (a.put o0.dst v0).eval o2).run P w.drew = .ok .skip w') (e2a : (execOp ((a.put o0.dst v0).put o1.dst v1).eval o2).run P w.drew = .ok .skip w')
    (comm : (a.put o1.dst v1).put o0.dst v0 = (a.put o0.dst v0).put o1.dst v1)
    (h : wpList P (o0 :: o1 :: o2 :: rest).toArray Q rest ((a.put o0.dst v0).put o1.dst v1) w') : (Code.region id (o0 :: o1 :: o2 :: rest).toArray true).wp P Q a w := by
  simp only [twoB, Bool.and_eq_true, decide_eq_true_eq] at hB
  obtain ⟨⟨⟨⟨⟨⟨r0, r1⟩, r2⟩, r3⟩, r4⟩, hq⟩, hsz⟩ := hB
  have pn : ∀ (b : Act) (v : Value), b.put none v = b := fun b v => rfl
  have fin : wpAny P .any (o0 :: o1 :: o2 :: rest).toArray Q rest.length ((((Array.replicate (o0 :: o1 :: o2 :: rest).toArray.size false).setIfInBounds 0 true).setIfInBounds 1 true).setIfInBounds 2 true) ((a.put o0.dst v0).put o1.dst v1) w' :=
    wpAny_of_seq rest 3 _ _ w' (fun j => by simp [Nat.add_comm 3 j]) hq h
  refine wp_region_any hm ?_
  rw [hsz]
  refine any_step [0, 1] r0 (by simp) fun i hi => ?_
  simp only [List.mem_cons, List.not_mem_nil, or_false] at hi
  rcases hi with rfl | rfl
  · refine wpOp_value (o := o0) (by simp) q0 e0 (any_step [1, 2] r1 (by simp) fun i hi => ?_)
    simp only [List.mem_cons, List.not_mem_nil, or_false] at hi
    rcases hi with rfl | rfl
    · refine wpOp_value (o := o1) (by simp) q1 e1a (any_step [2] r3 (by simp) fun i hi => ?_)
      simp only [List.mem_cons, List.not_mem_nil, or_false] at hi
      subst hi
      refine wpOp_skip (o := o2) (by simp) q2 e2a ?_
      rw [q3, pn]
      exact fin
    · refine wpOp_skip (o := o2) (by simp) q2 e2 ?_
      rw [q3, pn]
      refine any_step [1] r4 (by simp) fun i hi => ?_
      simp only [List.mem_cons, List.not_mem_nil, or_false] at hi
      subst hi
      refine wpOp_value (o := o1) (by simp) q1 e1b ?_
      rw [Array.setIfInBounds_comm _ _ (by decide : (2 : Nat) ≠ 1)]
      exact fin
  · refine wpOp_value (o := o1) (by simp) q1 e1 (any_step [0] r2 (by simp) fun i hi => ?_)
    simp only [List.mem_cons, List.not_mem_nil, or_false] at hi
    subst hi
    refine wpOp_value (o := o0) (by simp) q0 e0' ?_
    rw [comm, Array.setIfInBounds_comm _ _ (by decide : (1 : Nat) ≠ 0)]
    refine any_step [2] r3 (by simp) fun i hi => ?_
    simp only [List.mem_cons, List.not_mem_nil, or_false] at hi
    subst hi
    refine wpOp_skip (o := o2) (by simp) q2 e2a ?_
    rw [q3, pn]
    exact fin

theorem run_store_row (a : Act) (o : Oper) (w : World) (ty : TypeId) (x y : Operand) (ho : o.op = .store ty x y) (g : Nat) (cells : Array Value) (hx : a.eval x = .pointer (some ⟨g, 0, none⟩)) (hy : a.eval y = .agg cells) (t : TypeId) (old : Array Value) (hg : w.heap[g]? = some (.cells old t (0, 0)))
    (hi : (Tryz.prog.info? ty).map (·.size) = some cells.size) (hold : old.size = cells.size) (h1 : cells.all (·.oneCell') = true) : (execOp a.eval o).run Tryz.prog w = .ok .skip (w.setRow g cells) := by
  unfold execOp
  simp only [ho, hx, hy, Instr.storeAt, Instr.sureAddr, Sem.run_bind, Sem.run_pure, Result.andThen_ok, run_storeVar_row w g t ty old cells hg hi hold h1]
theorem run_loadC (a : Act) (o : Oper) (w : World) (x : Operand) (ho : o.op = .load 37 x) (g : Nat) (hx : a.eval x = .pointer (some ⟨g, 0, none⟩)) (V M : List Int) (hg : w.heap[g]? = some (.cells (cv V M) 37 (0, 0))) (hV : V.length = 13) (hM : M.length = 13) : (execOp a.eval o).run Tryz.prog w = .ok (.value (.agg (cv V M))) w :=
  by
  unfold execOp
  simp only [ho, hx, Instr.loadAt, Instr.sureAddr, Sem.run_bind, Sem.run_pure, Result.andThen_ok, run_loadVar_row w g _ _ (cv V M) (0, 0) _ hg Tryz.underlying37 rfl (sizeC V M hV hM)]
theorem run_loadH (a : Act) (o : Oper) (w : World) (x : Operand) (ho : o.op = .load 31 x) (g : Nat) (hx : a.eval x = .pointer (some ⟨g, 0, none⟩)) (L : List Int) (hg : w.heap[g]? = some (.cells (hv L) 31 (0, 0))) (hL : L.length = 13) : (execOp a.eval o).run Tryz.prog w = .ok (.value (.agg (hv L))) w :=
  by
  unfold execOp
  simp only [ho, hx, Instr.loadAt, Instr.sureAddr, Sem.run_bind, Sem.run_pure, Result.andThen_ok, run_loadVar_row w g _ _ (hv L) (0, 0) _ hg Tryz.underlying31 rfl (size26 L hL)]
theorem run_storeC (a : Act) (o : Oper) (w : World) (x y : Operand) (ho : o.op = .store 37 x y) (g : Nat) (V M : List Int) (hx : a.eval x = .pointer (some ⟨g, 0, none⟩)) (hy : a.eval y = .agg (cv V M)) (old : Array Value) (hg : w.heap[g]? = some (.cells old 37 (0, 0))) (hold : old.size = 26) (hV : V.length = 13) (hM : M.length = 13) : (execOp a.eval o).run Tryz.prog w = .ok .skip (w.setRow g (cv V M)) :=
  run_store_row a o w _ x y ho g _ hx hy _ old hg (sizeC V M hV hM) (by rw [cv_size V M hV hM, hold]) (cv_one V M)
theorem run_storeH (a : Act) (o : Oper) (w : World) (x y : Operand) (ho : o.op = .store 31 x y) (g : Nat) (L : List Int) (hx : a.eval x = .pointer (some ⟨g, 0, none⟩)) (hy : a.eval y = .agg (hv L)) (old : Array Value) (hg : w.heap[g]? = some (.cells old 31 (0, 0))) (hold : old.size = 13) (hL : L.length = 13) : (execOp a.eval o).run Tryz.prog w = .ok .skip (w.setRow g (hv L)) :=
  run_store_row a o w _ x y ho g _ hx hy _ old hg (size26 L hL) (by rw [hv_size, hold, hL]) (hv_one L)
end Go.Proofs.YtnbklmmampdbfaaGreatDoor
namespace Go.Proofs.YtnbklmmampdbfaaGreatDoor
open Go Go.RowKit
set_option maxRecDepth 20000

/-- The first rule that has a header. -/
def hasR (H : List Int) (r : RuleM) : Bool := has r.cube.1 r.cube.2 H
def rule0 : RuleM := ⟨0, (Z, Z), 0⟩
def lookT (l : List RuleM) (H : List Int) : RuleM × Bool := match l.find? (hasR H) with
  | some r => (r, true)
  | none => (rule0, false)
theorem find_take_none {α : Type} {p : α → Bool} {l : List α} {k : Nat} {x : α} (h : (l.take k).find? p = none) (hx : l[k]? = some x) (hp : p x = false) : (l.take (k + 1)).find? p = none := by
  rw [List.take_add_one, hx, List.find?_append, h]
  simp [hp]
theorem find_of_take {α : Type} {p : α → Bool} {l : List α} {k : Nat} {x : α} (h : (l.take k).find? p = none) (hx : l[k]? = some x) (hp : p x = true) : l.find? p = some x := by
  obtain ⟨hk, rfl⟩ := List.getElem?_eq_some_iff.1 hx
  conv => lhs; rw [← List.take_append_drop k l]
  rw [List.find?_append, h, List.drop_eq_getElem_cons hk, List.find?_cons, hp]
  rfl
theorem rule0_ok : okR8 rule0 := ⟨Z_byt, Z_byt⟩
/-- The end of a function that answers a rule in memory and a truth value. -/
theorem retRb {fn : Func} {R : Ending → World → Prop} {a : Act} {w : World} {p u : Tmp} (hr : fn.results = #[.cell p 39, .tmp u]) (hd : a.defers = []) (g : Nat) (hp : a.tmps.getD p undef = .pointer (some ⟨g, 0, none⟩)) (r : RuleM) (hk : okR8 r)
    (hg : w.heap[g]? = some (.cells (ruleV r) 39 (0, 0))) (v : Value) (hv : a.tmps.getD u undef = v) (h : R (.returned (.tuple #[.agg (ruleV r), v])) w) : bodyPost Tryz.prog fn R .ret a w := by
  refine bodyPost_ret (v := .tuple #[.agg (ruleV r), v]) ?_ hd h
  have hl := RuleOk.load w g 0 _ _ _ (ruleV r) (ruleV_size hk) hg (own_cells _ _)
  unfold RuleE at hl
  simp only at hl
  have hp' : a.tmps[p]?.getD undef = .pointer (some ⟨g, 0, none⟩) := by simpa using hp
  have hv' : a.tmps[u]?.getD undef = v := by simpa using hv
  simp [results, hr, hp', hv', hl, asAddr]

def RulesAt (w : World) (v : Value) (l : List RuleM) : Prop := GSl RuleE ruleV w v l
set_option maxHeartbeats 8000000 in
set_option maxRecDepth 100000 in
theorem look_any (l : List RuleM) (hl0 : ∀ r ∈ l, okR8 r) (vl : Value) (H : List Int) (hH : Byt H) (w : World) (hl : RulesAt w vl l) :
    Calls Tryz.prog 11 #[vl, .agg (hv H)] w fun e w' => e = .returned (.tuple #[.agg (ruleV (lookT l H).1), .bool (lookT l H).2]) ∧ Below w.heap.size w w' := by
  have hHl := hH.1
  have HA : Hid (∀ (V M : List Int) W, Byt V → Byt M → Calls Tryz.prog 22 #[.agg (cv V M), .agg (hv H)] W fun e w' => e = .returned (.bool (has V M H)) ∧ Below W.heap.size W w') := fun V M W h1 h2 => has_any V M H h1 h2 hH W
  obtain ⟨o, cap, rfl, hc1, hc2⟩ := GSl.slice hl
  obtain ⟨n, hn0⟩ : ∃ n, n = l.length := ⟨_, rfl⟩
  have HN : Hid (n = l.length) := hn0
  rw [← hn0] at hl hc1 ⊢
  have HL : Hid (RulesAt w (.slice o n cap) l) := hl
  have HOK : Hid (∀ r ∈ l, okR8 r) := hl0
  unfold maxLen at hc2
  have K0 : Hid (((w.alloc (.cells (hv H) 31)).alloc (.cells RuleE.zero 39)).heap[w.heap.size]? = some (.cells (hv H) 31 (0, 0)) ∧ ((w.alloc (.cells (hv H) 31)).alloc (.cells RuleE.zero 39)).heap[w.heap.size + 1]? = some (.cells RuleE.zero 39 (0, 0))) := ⟨heap_past _ _ _ _ (heap_new _ _ _ rfl), heap_new _ _ _ (by simp)⟩
  have B0 : Hid (Below w.heap.size w ((w.alloc (.cells (hv H) 31)).alloc (.cells RuleE.zero 39))) := ((Below.refl _ _).alloc (Nat.le_refl _) _).alloc (by simp) _
  obtain ⟨S, hS⟩ : ∃ S, S = lookT l H := ⟨_, rfl⟩
  have HS : Hid (S = lookT l H) := hS
  rw [← hS]
  clear hl hn0 hl0 hS
  go_enter Tryz.func11, Tryz.ntmps11
  go_wp2_with fail
  go_loopw [10] (fun i wr => ∃ k : Nat, k ≤ n ∧ i = .int .i64 (k : Int) ∧ Hid ((l.take k).find? (hasR H) = none) ∧ wr.heap[w.heap.size]? = some (.cells (hv H) 31 (0, 0)) ∧ wr.heap[w.heap.size + 1]? = some (.cells RuleE.zero 39 (0, 0)) ∧ Below w.heap.size w wr) (fun i _ => n - (intOf i).toNat)
  case atStart => exact ⟨0, Nat.zero_le _, rfl, rfl, K0.out.1, K0.out.2, B0.out⟩
  case round =>
    clear K0 B0
    obtain ⟨k, hk, rfl, HF, h1, h2, hb⟩ := hrel
    have R1 : Hid (wr.heap[w.heap.size]? = some (.cells (hv H) 31 (0, 0))) := h1
    have R2 : Hid (wr.heap[w.heap.size + 1]? = some (.cells RuleE.zero 39 (0, 0))) := h2
    have HB : Hid (Below w.heap.size w wr) := hb
    clear h1 h2 hb
    by_cases hlt : k < n
    · have hlt' : (k : Int) < (n : Int) := by omega
      obtain ⟨g, off, cur, ty, fr, r, rfl, hg, hc, hxk⟩ := (GSl.below HL.out HB.out).at k hlt
      have hr : okR8 r := HOK.out r (List.mem_of_getElem? hxk)
      have HR : Hid (okR8 r) := hr
      have hsz := ruleV_size hr
      have K1 : Hid (wr.heap[g]? = some (.cells cur ty fr)) := hg
      have H1 : Hid (∀ j, j < 28 → cur[off + k * 28 + j]? = (ruleV r)[j]?) := hc
      have KN : Hid ((wr.alloc (.cells (ruleV r) 39)).heap[wr.heap.size]? = some (.cells (ruleV r) 39 (0, 0))) := heap_new _ _ _ rfl
      have RN1 : Hid ((wr.alloc (.cells (ruleV r) 39)).heap[w.heap.size]? = some (.cells (hv H) 31 (0, 0))) := heap_past _ _ _ _ R1.out
      have RN2 : Hid ((wr.alloc (.cells (ruleV r) 39)).heap[w.heap.size + 1]? = some (.cells RuleE.zero 39 (0, 0))) := heap_past _ _ _ _ R2.out
      have BN : Hid (Below w.heap.size w (wr.alloc (.cells (ruleV r) 39))) := HB.out.alloc HB.out.size _
      have HX : Hid (l[k]? = some r) := hxk
      clear hg hc hxk hr
      go_wp2_with (first
        | (refine wl_loadE (E := RuleE) RuleOk rfl _ rfl g (off + k * 28) rfl cur ty fr (ruleV r) hsz K1.out H1.out ?_)
        | (refine wl_storeE (E := RuleE) RuleOk rfl _ _ rfl wr.heap.size (ruleV r) (rule_fits HR.out) rfl rfl _ (heap_new _ _ _ rfl) rfl _ (setRow_new _ _ _ _ _ rfl) ?_)
        | (refine wl_loadE (E := CubE) CubOk rfl _ rfl wr.heap.size 1 rfl _ _ _ (cv r.cube.1 r.cube.2) (cv_size _ _ HR.out.1.1 HR.out.2.1) KN.out (rule_at HR.out).2.1 ?_)
        | (refine wl_load26 rfl _ rfl w.heap.size rfl H RN1.out hHl ?_))
      refine (HA.out r.cube.1 r.cube.2 _ HR.out.1 HR.out.2).mono ?_
      rintro e w1 ⟨rfl, hb1⟩
      have B1 : Hid (Below w.heap.size w w1) := BN.out.trans (hb1.mono BN.out.size)
      have KR : Hid (w1.heap[wr.heap.size]? = some (.cells (ruleV r) 39 (0, 0))) := (hb1.block _ (by simp)).trans KN.out
      have R3 : Hid (w1.heap[w.heap.size]? = some (.cells (hv H) 31 (0, 0))) := (hb1.block _ (Array.getElem?_eq_some_iff.1 RN1.out).1).trans RN1.out
      have R4 : Hid (w1.heap[w.heap.size + 1]? = some (.cells RuleE.zero 39 (0, 0))) := (hb1.block _ (Array.getElem?_eq_some_iff.1 RN2.out).1).trans RN2.out
      clear hb1
      cases hhas : has r.cube.1 r.cube.2 H with
      | true =>
        have HE : Hid (S = (r, true)) := by
          show _ = _
          rw [HS.out]
          unfold lookT
          rw [find_of_take HF.out HX.out hhas]
        clear hhas
        go_wp2_with (first
          | (refine wl_loadE (E := RuleE) RuleOk rfl _ rfl wr.heap.size 0 rfl _ _ _ (ruleV r) hsz KR.out (own_cells _ _) ?_)
          | (refine wl_storeE (E := RuleE) RuleOk rfl _ _ rfl (w.heap.size + 1) (ruleV r) (rule_fits HR.out) rfl rfl _ R4.out rfl _ rfl ?_))
        refine retRb rfl rfl (w.heap.size + 1) rfl r HR.out (setRow_heap _ _ _ _ _ _ R4.out) _ rfl ?_
        rw [HE.out]
        exact ⟨rfl, below_setRow B1.out (by omega) _⟩
      | false =>
        have HF2 : Hid ((l.take (k + 1)).find? (hasR H) = none) := find_take_none HF.out HX.out hhas
        clear hhas
        go_wp2_with fail
        go_roundw
        case rel => exact ⟨k + 1, by omega, by go_num, HF2, R3.out, R4.out, B1.out⟩
        case measure => simp [intOf]; omega
    · have hlt' : ¬ (k : Int) < (n : Int) := by omega
      have HE : Hid (S = (rule0, false)) := by
        have e := HN.out
        have hF := HF.out
        rw [List.take_of_length_le (by omega)] at hF
        show _ = _
        rw [HS.out]
        unfold lookT
        rw [hF]
      have HZ : Hid (RuleE.zero = ruleV rule0) := zero_rule
      go_wp2_with (first
        | (refine wl_storeE (E := RuleE) RuleOk rfl _ _ rfl (w.heap.size + 1) (ruleV rule0) (rule_fits rule0_ok) rfl (by rw [← HZ.out]; rfl) _ R2.out rfl _ rfl ?_))
      refine retRb rfl rfl (w.heap.size + 1) rfl rule0 rule0_ok (setRow_heap _ _ _ _ _ _ R2.out) _ rfl ?_
      rw [HE.out]
      exact ⟨rfl, below_setRow HB.out (by omega) _⟩
end Go.Proofs.YtnbklmmampdbfaaGreatDoor
namespace Go.Proofs.YtnbklmmampdbfaaGreatDoor
open Go Go.RowKit
set_option maxRecDepth 20000

/-- The end of a function whose results are two cubes in memory, and a plain one. -/
theorem retCCe {fn : Func} {R : Ending → World → Prop} {a : Act} {w : World} {p q u : Tmp} (hr : fn.results = #[.cell p 37, .cell q 37, .tmp u]) (hd : a.defers = []) (g g' : Nat) (hp : a.tmps.getD p undef = .pointer (some ⟨g, 0, none⟩)) (hq : a.tmps.getD q undef = .pointer (some ⟨g', 0, none⟩)) (V M V' M' : List Int) (hV : V.length = 13) (hM : M.length = 13) (hV' : V'.length = 13) (hM' : M'.length = 13)
    (hg : w.heap[g]? = some (.cells (cv V M) 37 (0, 0))) (hg' : w.heap[g']? = some (.cells (cv V' M') 37 (0, 0))) (v : Value) (hu : a.tmps.getD u undef = v) (h : R (.returned (.tuple #[.agg (cv V M), .agg (cv V' M'), v])) w) : bodyPost Tryz.prog fn R .ret a w := by
  refine bodyPost_ret (v := .tuple #[.agg (cv V M), .agg (cv V' M'), v]) ?_ hd h
  simp only [results, hr]
  have hp' : a.tmps[p]?.getD undef = .pointer (some ⟨g, 0, none⟩) := by simpa using hp
  have hq' : a.tmps[q]?.getD undef = .pointer (some ⟨g', 0, none⟩) := by simpa using hq
  have hu' : a.tmps[u]?.getD undef = v := by simpa using hu
  simp [Sem.run_bind, hp', hq', hu', asAddr, run_loadVar_row w g 37 37 (cv V M) (0, 0) _ hg Tryz.underlying37 rfl (sizeC V M hV hM), run_loadVar_row w g' 37 37 (cv V' M') (0, 0) _ hg' Tryz.underlying37 rfl (sizeC V' M' hV' hM')]

end Go.Proofs.YtnbklmmampdbfaaGreatDoor
namespace Go.Proofs.YtnbklmmampdbfaaGreatDoor
open Go Go.RowKit
set_option maxRecDepth 20000

/-- How many bits of a byte are one. -/
def ones (x : Int) : Int := ((List.range 8).filter fun j => yb x j).length

theorem ones_fin : ∀ n : Fin 256, ones (n.val : Int) = (Lib.onesCount n.val : Int) := by decide +kernel
theorem ones_bd : ∀ n : Fin 256, 0 ≤ ones (n.val : Int) ∧ ones (n.val : Int) ≤ 8 := by decide +kernel
theorem ones_le (x : Int) (h0 : 0 ≤ x) (h1 : x < 256) : 0 ≤ ones x ∧ ones x ≤ 8 := by
  have := ones_bd ⟨x.toNat, by omega⟩
  simpa only [Int.toNat_of_nonneg h0] using this

theorem run_idx (L : List Int) (hL : L.length = 13) (k : Nat) (hk : k < 13) (w : World) : (Instr.index 31 (.agg (hv L)) (.int .i64 (k : Int))).run Tryz.prog w = .ok (.int .u8 (L.getD k 0)) w := by
  have hx := hv_at L hL k hk
  have hz : ∀ w, (sizeOf 5).run Tryz.prog w = .ok 1 w := fun w => by kernel_rfl
  simp [Instr.index, run_underlying Tryz.underlying31, asIntOf, go_sem, hz, hx, hk]

/-- How many of the first k bytes' bits are one. -/
def onesN (M : List Int) : Nat → Int
  | 0 => 0
  | k + 1 => onesN M k + ones (M.getD k 0)
theorem onesN_bd (M : List Int) (hM : Byt M) : ∀ k, 0 ≤ onesN M k ∧ onesN M k ≤ 8 * k
  | 0 => by simp [onesN]
  | k + 1 => by
    have := onesN_bd M hM k
    have := ones_le (M.getD k 0) (hM.2 k).1 (hM.2 k).2
    simp only [onesN]
    omega
/-- How many bits of a cube are free. -/
def free (M : List Int) : Int := ((List.range 104).filter fun i => !(bt M i)).length

theorem filter_not_len {α : Type} (p : α → Bool) (l : List α) : (l.filter fun i => !(p i)).length + (l.filter p).length = l.length := by
  induction l with
  | nil => rfl
  | cons a l ih => cases h : p a <;> simp [h] <;> omega

theorem range_add_filter (p : Nat → Bool) (n m : Nat) : ((List.range (n + m)).filter p).length = ((List.range n).filter p).length + ((List.range m).filter fun j => p (n + j)).length := by
  rw [List.range_add, List.filter_append, List.length_append, List.filter_map, List.length_map]
  rfl

theorem onesN_eq (M : List Int) : ∀ k, onesN M k = (((List.range (8 * k)).filter fun i => bt M i).length : Int)
  | 0 => rfl
  | k + 1 => by
    rw [show 8 * (k + 1) = 8 * k + 8 by omega, range_add_filter, onesN, onesN_eq M k]
    have : (fun j => bt M (8 * k + j)) = fun j => yb (M.getD ((8 * k + j) / 8) 0) ((8 * k + j) % 8) := rfl
    have e : ((List.range 8).filter fun j => bt M (8 * k + j)) = ((List.range 8).filter fun j => yb (M.getD k 0) j) := by
      apply List.filter_congr
      intro j hj
      have hj' : j < 8 := List.mem_range.1 hj
      unfold bt
      rw [show (8 * k + j) / 8 = k by omega, show (8 * k + j) % 8 = j by omega]
    rw [e]
    unfold ones
    push_cast
    rfl
theorem free_eq (M : List Int) : 104 - onesN M 13 = free M := by
  rw [onesN_eq, show 8 * 13 = 104 from rfl]
  unfold free
  have := filter_not_len (fun i => bt M i) (List.range 104)
  rw [List.length_range] at this
  omega

end Go.Proofs.YtnbklmmampdbfaaGreatDoor
namespace Go.Proofs.YtnbklmmampdbfaaGreatDoor
open Go Go.RowKit
set_option maxRecDepth 20000

/-- The letter of a bit. -/
def letter (V M : List Int) (i : Nat) : UInt8 := if bt M i then (if bt V i then 49 else 48) else 42
def txt (V M : List Int) : List UInt8 := (List.range 104).map (letter V M)

/-- Bytes as cells. -/
def bv (L : List UInt8) : Array Value := (L.map fun b => Value.int .u8 (b.toNat : Int)).toArray

theorem bv_size (L : List UInt8) : (bv L).size = L.length := by simp [bv]
theorem bv_at (L : List UInt8) (k : Nat) (hk : k < L.length) : (bv L)[k]? = some (.int .u8 ((L.getD k 0).toNat : Int)) := by
  unfold bv
  simp [List.getElem?_eq_getElem hk, List.getD]
theorem bv_set (L : List UInt8) (k : Nat) (b : UInt8) : (bv L).setIfInBounds k (.int .u8 (b.toNat : Int)) = bv (L.set k b) := by
  unfold bv
  rw [List.setIfInBounds_toArray, ← List.map_set]
theorem bset_getD (L : List UInt8) (j k : Nat) (v : UInt8) (hj : j < L.length) : (L.set j v).getD k 0 = if j = k then v else L.getD k 0 := by
  simp only [List.getD, List.getElem?_set]
  by_cases h : j = k
  · subst h; simp [hj]
  · simp [h]

theorem text_step (V M : List Int) (L : List UInt8) (k : Nat) (hL : L.length = 104) (hk : k < 104) (h : ∀ j, j < k → L.getD j 0 = letter V M j) (b : UInt8) (hb : b = letter V M k) : ∀ j, j < k + 1 → (L.set k b).getD j 0 = letter V M j := fun j hj => by
  rw [bset_getD _ _ _ _ (by omega)]
  by_cases e : k = j
  · subst e; rw [if_pos rfl, hb]
  · rw [if_neg e]; exact h j (by omega)

end Go.Proofs.YtnbklmmampdbfaaGreatDoor
namespace Go.Proofs.YtnbklmmampdbfaaGreatDoor
open Go Go.RowKit
set_option maxRecDepth 20000

theorem fold_get (off : Nat) : ∀ (xs : List Value) (n : Nat) (cells : Array Value) (k : Nat), off + n + xs.length ≤ cells.size →
    ((xs.zipIdx n).foldl (fun cs (x : Value × Nat) => cs.setIfInBounds (off + x.2) x.1) cells)[k]? = if off + n ≤ k ∧ k < off + n + xs.length then xs[k - (off + n)]? else cells[k]?
  | [], n, cells, k, _ => by
    simp only [List.zipIdx_nil, List.foldl_nil, List.length_nil, Nat.add_zero]
    rw [if_neg (by omega)]
  | x :: xs, n, cells, k, h => by
    simp only [List.length_cons] at h
    rw [List.zipIdx_cons, List.foldl_cons, fold_get off xs (n + 1) _ k (by simp; omega)]
    simp only [List.length_cons]
    by_cases h1 : off + (n + 1) ≤ k ∧ k < off + (n + 1) + xs.length
    · rw [if_pos h1, if_pos (by omega), show k - (off + n) = (k - (off + (n + 1))) + 1 by omega, List.getElem?_cons_succ]
    · rw [if_neg h1]
      by_cases h2 : k = off + n
      · subst h2
        rw [if_pos (by omega), Nat.sub_self, List.getElem?_cons_zero, Array.getElem?_setIfInBounds_self_of_lt (by omega)]
      · rw [if_neg (by omega), Array.getElem?_setIfInBounds_ne (by omega)]

theorem fold_all (xs cells : Array Value) (h : xs.size = cells.size) : xs.zipIdx.foldl (fun cs (x : Value × Nat) => cs.setIfInBounds (0 + x.2) x.1) cells = xs := by
  have e : xs.zipIdx.foldl (fun cs (x : Value × Nat) => cs.setIfInBounds (0 + x.2) x.1) cells = (xs.toList.zipIdx 0).foldl (fun cs (x : Value × Nat) => cs.setIfInBounds (0 + x.2) x.1) cells := by
    rw [← Array.foldl_toList]; simp
  rw [e]
  apply Array.ext_getElem?
  intro k
  rw [fold_get 0 xs.toList 0 cells k (by simp; omega)]
  by_cases hk : k < xs.size
  · rw [if_pos (by simp; omega)]; simp
  · rw [if_neg (by simp; omega), Array.getElem?_eq_none (by omega), Array.getElem?_eq_none (by omega)]

theorem infoC : ∃ i, Tryz.prog.info? 37 = some i ∧ i.zero = some (.agg zeroC) ∧ i.size = 26 ∧ i.bytes = 26 := by
  cases h : Tryz.prog.info? 37 with
  | none => exact absurd (show (Tryz.prog.info? 37).isSome = true by kernel_rfl) (by rw [h]; simp)
  | some i =>
    have h1 : (Tryz.prog.info? 37).map (fun i => (i.zero, i.size, i.bytes)) = some (some (.agg zeroC), 26, 26) := by kernel_rfl
    rw [h] at h1
    simp only [Option.map_some, Option.some.injEq, Prod.mk.injEq] at h1
    exact ⟨i, rfl, h1.1, h1.2.1, h1.2.2⟩

/-- A slice of one cube. -/
theorem wl_build1 {ops : Array Oper} {rest : List Oper} {o : Oper} {a : Act} {w : World} {Q : Exit → Act → World → Prop} (hg : o.guard = none) (x : Operand) (ho : o.op = .buildSlice 49 1 #[(0, x)]) (V M : List Int) (hV : V.length = 13) (hM : M.length = 13) (hx : a.eval x = .agg (cv V M))
    (h : wpList Tryz.prog ops Q rest (a.put o.dst (.slice (some ⟨w.heap.size, 0, none⟩) 1 1)) (w.alloc (.cells (cv V M) 37))) : wpList Tryz.prog ops Q (o :: rest) a w := by
  obtain ⟨ie, hie, hz, hs, _⟩ := infoC
  refine wpList_buildSlice hg 49 37 1 _ ho (cv V M) ie (.agg zeroC) Tryz.underlying49 hie hz (by rw [hs]; decide) (by rw [hs]; decide) ?_ h
  have hsz := cv_size V M hV hM
  simp only [List.map_toArray, List.map_cons, List.map_nil, hx, Instr.fill, hs, Nat.zero_mul, Value.cells, hsz]
  rw [if_neg (by simp)]
  congr 1
  exact fold_all _ _ (by rw [hsz]; simp)

/-- The cells of a list of cubes. -/
def ccells (C : List (List Int × List Int)) : List Value := C.flatMap fun c => (cv c.1 c.2).toList
theorem ccells_append (C D : List (List Int × List Int)) : ccells (C ++ D) = ccells C ++ ccells D := by simp [ccells]
theorem ccells_one (V M : List Int) : ccells [(V, M)] = (cv V M).toList := by simp [ccells]

theorem cells_new (w : World) (cs : Array Value) (t : TypeId) : ∀ j u, cs.toList[j]? = some u → (w.alloc (.cells cs t)).cell? ((⟨w.heap.size, 0, none⟩ : Addr).add j) = some u := fun j u hu => by
  have hadd : (⟨w.heap.size, 0, none⟩ : Addr).add j = ⟨w.heap.size, j, none⟩ := by unfold Addr.add; split <;> simp_all
  rw [hadd, cell_of_row _ _ _ _ _ _ (heap_new w _ _ rfl)]
  simpa using hu

theorem own_below {w w' : World} {B : Nat} {e : TypeId} {s : Nat} {v : Value} {n : Nat} {xs : List Value} (h : w.ownsRow B e s v n xs) (hb : Below w.heap.size w w') : w'.ownsRow B e s v n xs := by
  obtain ⟨h1, h2 | ⟨g, cap, cur, rfl, hB, hcur, h3⟩⟩ := h
  · exact ⟨h1, .inl h2⟩
  · exact ⟨h1, .inr ⟨g, cap, cur, rfl, hB, (hb.block g (Array.getElem?_eq_some_iff.1 hcur).1).trans hcur, h3⟩⟩
theorem own_setRow {w : World} {B : Nat} {e : TypeId} {s : Nat} {v : Value} {n : Nat} {xs : List Value} (h : w.ownsRow B e s v n xs) (g : Nat) (hg : g < B) (cs : Array Value) : (w.setRow g cs).ownsRow B e s v n xs := by
  obtain ⟨h1, h2 | ⟨g', cap, cur, rfl, hB, hcur, h3⟩⟩ := h
  · exact ⟨h1, .inl h2⟩
  · exact ⟨h1, .inr ⟨g', cap, cur, rfl, hB, (setRow_other _ _ _ _ (by omega)).trans hcur, h3⟩⟩
theorem own_base {w : World} {B B' : Nat} {e : TypeId} {s : Nat} {v : Value} {n : Nat} {xs : List Value} (h : w.ownsRow B e s v n xs) (hB' : B' ≤ B) : w.ownsRow B' e s v n xs := by
  obtain ⟨h1, h2 | ⟨g', cap, cur, rfl, hB, h3⟩⟩ := h
  · exact ⟨h1, .inl h2⟩
  · exact ⟨h1, .inr ⟨g', cap, cur, rfl, by omega, h3⟩⟩
end Go.Proofs.YtnbklmmampdbfaaGreatDoor
namespace Go.Proofs.YtnbklmmampdbfaaGreatDoor
open Go Go.RowKit
set_option maxRecDepth 20000

/-- What the loop of Minus lays, from a bit on. -/
def mGo (bV bM : List Int) : Nat → Nat → List Int → List Int → List (List Int × List Int)
  | 0, _, _, _ => []
  | f + 1, i, V, M => if (V == bV && M == bM) = true then [] else if bt M i = true ∨ bt bM i = false then mGo bV bM f (i + 1) V M else (fixV V M i (!(bt bV i)), fixM M i) :: mGo bV bM f (i + 1) (fixV V M i (bt bV i)) (fixM M i)
/-- What Minus answers. -/
def minusC (V M V' M' : List Int) : List (List Int × List Int) :=
  if meets V M V' M' = true then mGo (meetV V M V' M') (meetM M M') 104 0 (can V M) M else [(can V M, M)]

theorem minusC_no (V M V' M' : List Int) (h : meets V M V' M' = false) : minusC V M V' M' = [(can V M, M)] := by unfold minusC; rw [h]; rfl
theorem minusC_yes (V M V' M' : List Int) (h : meets V M V' M' = true) : minusC V M V' M' = mGo (meetV V M V' M') (meetM M M') 104 0 (can V M) M := by unfold minusC; rw [if_pos h]

/-- A goal at which the walk stands still. -/
def Stopped (p : Prop) : Prop := p
theorem of_stopped {p : Prop} (h : Stopped p) : p := h

theorem mGo_stop (bV bM : List Int) (f i : Nat) (V M : List Int) (h : (V == bV && M == bM) = true) : mGo bV bM f i V M = [] := by
  cases f
  · rfl
  · unfold mGo; rw [if_pos h]
theorem mGo_pass (bV bM : List Int) (f i : Nat) (V M : List Int) (h : (V == bV && M == bM) = false) (h2 : bt M i = true ∨ bt bM i = false) : mGo bV bM (f + 1) i V M = mGo bV bM f (i + 1) V M := by
  rw [mGo, if_neg (by rw [h]; decide), if_pos h2]
theorem mGo_cut (bV bM : List Int) (f i : Nat) (V M : List Int) (h : (V == bV && M == bM) = false) (h2 : bt M i = false) (h3 : bt bM i = true) : mGo bV bM (f + 1) i V M = (fixV V M i (!(bt bV i)), fixM M i) :: mGo bV bM f (i + 1) (fixV V M i (bt bV i)) (fixM M i) := by
  rw [mGo, if_neg (by rw [h]; decide), if_neg (by rw [h2, h3]; simp)]

theorem fixV_byt (V M : List Int) (i : Nat) (b : Bool) : Byt (fixV V M i b) := setb_byt _ _ _
theorem fixM_byt (M : List Int) (i : Nat) : Byt (fixM M i) := setb_byt _ _ _

end Go.Proofs.YtnbklmmampdbfaaGreatDoor
namespace Go.Proofs.YtnbklmmampdbfaaGreatDoor
open Go Go.RowKit
set_option maxRecDepth 20000

/-- A cube that lies within a block, from a place on. -/
theorem load_cube (w : World) (g off : Nat) (cs : Array Value) (t : TypeId) (fr : Nat × Nat) (V M : List Int) (hV : V.length = 13) (hM : M.length = 13) (hg : w.heap[g]? = some (.cells cs t fr)) (hc : ∀ j, j < 26 → cs[off + j]? = (cv V M)[j]?) :
    (loadVar 37 ⟨g, off, none⟩).run Tryz.prog w = .ok (.agg (cv V M)) w := by
  have hsz := cv_size V M hV hM
  have hl : (loadCells ⟨g, off, none⟩ (cv V M).toList.length).run Tryz.prog w = .ok (cv V M).toList.toArray w :=
    run_loadCells_list (P := Tryz.prog) w ⟨g, off, none⟩ (cv V M).toList (fun j v hv => by
      have hadd : (⟨g, off, none⟩ : Addr).add j = ⟨g, off + j, none⟩ := by unfold Addr.add; split <;> simp_all
      have hj : j < 26 := by
        have := (List.getElem?_eq_some_iff.1 hv).1
        simpa [hsz] using this
      rw [hadd, cell_of_row w g (off + j) cs t fr hg, hc j hj]
      simpa using hv)
  obtain ⟨i, hq, _, hs, _⟩ := infoC
  have hagg : (isAgg 37).run Tryz.prog w = .ok true w := by
    unfold isAgg
    rw [Sem.run_bind, run_underlying Tryz.underlying37 w]
    rfl
  rw [Array.length_toList, hsz, Array.toArray_toList] at hl
  simp [loadVar, Sem.run_bind, hagg, sizeOf, typeInfo, hq, hs, hl]
theorem wl_loadCat {ops : Array Oper} {rest : List Oper} {o : Oper} {a : Act} {w : World} {Q : Exit → Act → World → Prop} (hw : Region.wanted o (yielded ops a.tmps) = true) (x : Operand) (ho : o.op = .load 37 x)
    (g off : Nat) (hx : a.eval x = .pointer (some ⟨g, off, none⟩)) (cs : Array Value) (t : TypeId) (fr : Nat × Nat) (V M : List Int) (hV : V.length = 13) (hM : M.length = 13) (hg : w.heap[g]? = some (.cells cs t fr)) (hc : ∀ j, j < 26 → cs[off + j]? = (cv V M)[j]?)
    (h : wpList Tryz.prog ops Q rest (a.put o.dst (.agg (cv V M))) w) : wpList Tryz.prog ops Q (o :: rest) a w := by
  refine wpList_step fun K hK => ?_
  rw [if_pos hw]
  unfold Oper.wp execOp
  simp only [ho, hx, Instr.loadAt, Instr.sureAddr, Sem.run_bind, Sem.run_pure, Result.andThen_ok, load_cube w g off cs t fr V M hV hM hg hc]
  exact hK _ _ h

def m128 : List Int := [128, 0, 0, 0, 0, 0, 0, 0, 0, 0, 0, 0, 0]
def m64 : List Int := [64, 0, 0, 0, 0, 0, 0, 0, 0, 0, 0, 0, 0]
def m192 : List Int := [192, 0, 0, 0, 0, 0, 0, 0, 0, 0, 0, 0, 0]
def m0 : List Int := [0, 0, 0, 0, 0, 0, 0, 0, 0, 0, 0, 0, 0]
theorem Z_m0 : Z = m0 := Z_eq
theorem byt_of (L : List Int) (h1 : L.length = 13) (h2 : ∀ x ∈ L, 0 ≤ x ∧ x < 256) : Byt L := by
  refine ⟨h1, fun k => ?_⟩
  rcases Nat.lt_or_ge k 13 with h | h
  · rw [List.getD, List.getElem?_eq_getElem (by omega)]; exact h2 _ (List.getElem_mem _)
  · rw [List.getD, List.getElem?_eq_none (by omega)]; decide
theorem b128 : Byt m128 := byt_of _ rfl (by decide)
theorem b64 : Byt m64 := byt_of _ rfl (by decide)
theorem b192 : Byt m192 := byt_of _ rfl (by decide)
theorem b0 : Byt m0 := byt_of _ rfl (by decide)

theorem ex1 : fixV m0 m0 0 false = m0 := by kernel_rfl
theorem ex2 : fixM m0 0 = m128 := by kernel_rfl
theorem ex3 : fixV m0 m0 1 true = m64 := by kernel_rfl
theorem ex4 : fixM m0 1 = m64 := by kernel_rfl
theorem ex5 : meets m0 m128 m64 m64 = true := by kernel_rfl
theorem ex6 : meetV m0 m128 m64 m64 = m64 := by kernel_rfl
theorem ex7 : meetM m128 m64 = m192 := by kernel_rfl
theorem ex8 : bt m128 0 = true := by kernel_rfl
theorem ex9 : meets m0 m0 m64 m192 = true := by kernel_rfl
theorem ex10 : meetV m0 m0 m64 m192 = m64 := by kernel_rfl
theorem ex11 : meetM m0 m192 = m192 := by kernel_rfl
theorem ex12 : can m0 m0 = m0 := by kernel_rfl
theorem ex13 : fixV m0 m0 0 true = m128 := by kernel_rfl
theorem ex14 : fixV m0 m128 1 false = m0 := by kernel_rfl
theorem ex15 : fixV m0 m128 1 true = m64 := by kernel_rfl
theorem ex16 : fixM m128 1 = m192 := by kernel_rfl
theorem ex17 : minusC m0 m0 m64 m192 = [(m128, m128), (m0, m192)] := by
  rw [minusC_yes _ _ _ _ ex9, ex10, ex11, ex12, mGo_cut _ _ _ _ _ _ (by kernel_rfl) (by kernel_rfl) (by kernel_rfl), show bt m64 0 = false by kernel_rfl, Bool.not_false, ex13, ex2, ex1, mGo_cut _ _ _ _ _ _ (by kernel_rfl) (by kernel_rfl) (by kernel_rfl), show bt m64 (0 + 1) = true by kernel_rfl, Bool.not_true, ex14, ex15, ex16, mGo_stop _ _ _ _ _ _ (by kernel_rfl)]
theorem ex18 : free m0 = 104 := by kernel_rfl
theorem ex19 : (txt m64 m192).take 3 = [48, 49, 42] := by kernel_rfl
theorem ex20 : (txt m0 m192).take 3 = [48, 48, 42] := by kernel_rfl
theorem txt_length (V M : List Int) : (txt V M).length = 104 := by simp [txt]

theorem all0 (w : World) : Calls Tryz.prog 14 #[] w fun e w' => e = .returned (.agg (cv m0 m0)) ∧ Below w.heap.size w w' := by
  have := all_any w; rwa [Z_m0] at this
theorem fixA (w : World) : Calls Tryz.prog 84 #[.agg (cv m0 m0), .int .i64 0, .bool false] w fun e w' => e = .returned (.tuple #[.agg (cv m0 m128), .int .i64 0]) ∧ Below w.heap.size w w' := by
  have := fix_in m0 m0 b0 b0 0 false (by decide) w; rwa [ex1, ex2] at this
theorem fixB (w : World) : Calls Tryz.prog 84 #[.agg (cv m0 m0), .int .i64 1, .bool true] w fun e w' => e = .returned (.tuple #[.agg (cv m64 m64), .int .i64 0]) ∧ Below w.heap.size w w' := by
  have := fix_in m0 m0 b0 b0 1 true (by decide) w; rwa [ex3, ex4] at this
theorem meetAB (w : World) : Calls Tryz.prog 62 #[.agg (cv m0 m128), .agg (cv m64 m64)] w fun e w' => e = .returned (.tuple #[.agg (cv m64 m192), .bool true]) ∧ Below w.heap.size w w' := by
  have := meet_any m0 m128 m64 m64 b0 b128 b64 b64 w; rwa [meetR_yes _ _ _ _ ex5, ex6, ex7] at this
theorem take3 (T : List UInt8) : ((⟨T.toArray⟩ : ByteArray).extract 0 3).toList = T.take 3 := by
  rw [ByteArray.toList_eq, ByteArray.data_extract, Array.toList_extract]
  simp

end Go.Proofs.YtnbklmmampdbfaaGreatDoor
namespace Go.Proofs.YtnbklmmampdbfaaGreatDoor
open Go Go.RowKit
set_option maxRecDepth 20000

/-- A bit of a cube: 0, 1, or 2, if it is free. -/
def atI (V M : List Int) (i : Nat) : Int := if bt M i then (if bt V i then 1 else 0) else 2
theorem at_ne2 (V M : List Int) (i : Nat) : (atI V M i != 2) = bt M i := by
  unfold atI; cases bt M i <;> cases bt V i <;> rfl
theorem at_eq1 (V M : List Int) (i : Nat) : (atI V M i == 1) = (bt V i && bt M i) := by
  unfold atI; cases bt M i <;> cases bt V i <;> rfl
theorem at_ne0 (V M : List Int) (i : Nat) : (atI V M i != 0) = ((bt V i && bt M i) || !(bt M i)) := by
  unfold atI; cases bt M i <;> cases bt V i <;> rfl
theorem at_cases (V M : List Int) (i : Nat) : atI V M i = 0 ∨ atI V M i = 1 ∨ atI V M i = 2 := by
  unfold atI; cases bt M i <;> cases bt V i <;> simp

set_option maxHeartbeats 1000000 in
theorem at_any (V M : List Int) (hV : Byt V) (hM : Byt M) (i : Nat) (hi : i < 104) (w : World) :
    Calls Tryz.prog 60 #[.agg (cv V M), .int .i64 (i : Int)] w fun e w' => e = .returned (.int .i64 (atI V M i)) ∧ Below w.heap.size w w' := by
  have hVl := hV.1
  have hMl := hM.1
  have CM : Hid (∀ W, Calls Tryz.prog 89 #[.agg (hv M), .int .i64 (i : Int)] W fun e w' => e = .returned (.bool (bt M i)) ∧ Below W.heap.size W w') := rbit_nat M hM i hi
  have CV : Hid (∀ W, Calls Tryz.prog 89 #[.agg (hv V), .int .i64 (i : Int)] W fun e w' => e = .returned (.bool (bt V i)) ∧ Below W.heap.size W w') := rbit_nat V hV i hi
  clear hV hM
  unfold atI
  obtain ⟨bm, hbm⟩ : ∃ b, b = bt M i := ⟨_, rfl⟩
  obtain ⟨bv, hbv⟩ : ∃ b, b = bt V i := ⟨_, rfl⟩
  rw [← hbm] at CM ⊢
  rw [← hbv] at CV ⊢
  clear hbm hbv
  go_enter Tryz.func60, Tryz.ntmps60
  go_wp2_with (first
    | (refine wl_loadM rfl _ rfl w.heap.size rfl V M (heap_new _ _ _ rfl) hVl hMl ?_))
  refine (CM.out _).mono ?_
  rintro e w1 ⟨rfl, hb1⟩
  have g0 : w1.heap[w.heap.size]? = some (.cells (cv V M) 37 (0, 0)) := by rw [hb1.block _ (by simp)]; exact heap_new _ _ _ rfl
  have B1 : Below w.heap.size w w1 := ((Below.refl _ _).alloc (Nat.le_refl _) _).trans (hb1.mono (by simp))
  clear hb1 CM
  cases bm
  · go_wp2_with fail
    go_ret
    exact ⟨rfl, B1⟩
  · go_wp2_with (first
      | (refine wl_loadV rfl _ rfl w.heap.size rfl V M g0 hVl ?_))
    refine (CV.out _).mono ?_
    rintro e w2 ⟨rfl, hb2⟩
    have B2 := B1.trans (hb2.mono B1.size)
    clear hb2 CV
    cases bv
    · go_wp2_with fail
      go_ret
      exact ⟨rfl, B2⟩
    · go_wp2_with fail
      go_ret
      exact ⟨rfl, B2⟩

set_option maxHeartbeats 1000000 in
theorem rset_any (V M : List Int) (hV : Byt V) (hM : Byt M) (i : Nat) (hi : i < 104) (v : Int) (w : World) :
    Calls Tryz.prog 61 #[.agg (cv V M), .int .i64 (i : Int), .int .i64 v] w fun e w' => e = .returned (.agg (cv (setb V i (v == 1)) (setb M i (v != 2)))) ∧ Below w.heap.size w w' := by
  have hVl := hV.1
  have hMl := hM.1
  have hFl : (setb M i (v != 2)).length = 13 := (setb_byt M i _).1
  have hGl : (setb V i (v == 1)).length = 13 := (setb_byt V i _).1
  have C1 : Hid (∀ W, Calls Tryz.prog 88 #[.agg (hv M), .int .i64 (i : Int), .bool (v != 2)] W fun e w' => e = .returned (.agg (hv (setb M i (v != 2)))) ∧ Below W.heap.size W w') := rput_nat M hM i hi _
  have C2 : Hid (∀ W, Calls Tryz.prog 88 #[.agg (hv V), .int .i64 (i : Int), .bool (v == 1)] W fun e w' => e = .returned (.agg (hv (setb V i (v == 1)))) ∧ Below W.heap.size W w') := rput_nat V hV i hi _
  clear hV hM
  obtain ⟨N, hN⟩ : ∃ N, N = setb M i (v != 2) := ⟨_, rfl⟩
  obtain ⟨U, hU⟩ : ∃ U, U = setb V i (v == 1) := ⟨_, rfl⟩
  rw [← hN] at C1 hFl ⊢
  rw [← hU] at C2 hGl ⊢
  clear hN hU
  go_enter Tryz.func61, Tryz.ntmps61
  have g0 : ((w.alloc (.cells (cv V M) 37)).alloc (.cells zeroC 37)).heap[w.heap.size]? = some (.cells (cv V M) 37 (0, 0)) := heap_past _ _ _ _ (heap_new _ _ _ rfl)
  have g1 : ((w.alloc (.cells (cv V M) 37)).alloc (.cells zeroC 37)).heap[w.heap.size + 1]? = some (.cells zeroC 37 (0, 0)) := heap_new _ _ _ (by simp)
  have hb : Below w.heap.size w ((w.alloc (.cells (cv V M) 37)).alloc (.cells zeroC 37)) := ((Below.refl _ _).alloc (Nat.le_refl _) _).alloc (by simp) _
  go_wp2_with (first
    | (refine wl_loadM rfl _ rfl w.heap.size rfl V M g0 hVl hMl ?_))
  refine (C1.out _).mono ?_
  rintro e w2 ⟨rfl, hb2⟩
  have m0 : w2.heap[w.heap.size]? = some (.cells (cv V M) 37 (0, 0)) := by rw [hb2.block _ (by simp; omega)]; exact g0
  have m1 : w2.heap[w.heap.size + 1]? = some (.cells zeroC 37 (0, 0)) := by rw [hb2.block _ (by simp)]; exact g1
  have hz2 : w.heap.size + 2 ≤ w2.heap.size := Nat.le_trans (by simp) hb2.size
  have hB2 := hb.trans (hb2.mono hb.size)
  clear g0 g1 hb hb2 C1
  have n0 : (w2.setRow w.heap.size (cv V N)).heap[w.heap.size]? = some (.cells (cv V N) 37 (0, 0)) := setRow_heap _ _ _ _ _ _ m0
  have n1 : (w2.setRow w.heap.size (cv V N)).heap[w.heap.size + 1]? = some (.cells zeroC 37 (0, 0)) := (setRow_other _ _ _ _ (by omega)).trans m1
  go_wp2_with (first
    | (refine wl_storeM rfl _ _ rfl w.heap.size rfl V M N rfl hVl hMl hFl m0 _ rfl ?_)
    | (refine wl_loadV rfl _ rfl w.heap.size rfl V N n0 hVl ?_))
  refine (C2.out _).mono ?_
  rintro e w3 ⟨rfl, hb3⟩
  have p0 : w3.heap[w.heap.size]? = some (.cells (cv V N) 37 (0, 0)) := by rw [hb3.block _ (by simp; omega)]; exact n0
  have p1 : w3.heap[w.heap.size + 1]? = some (.cells zeroC 37 (0, 0)) := by rw [hb3.block _ (by simp; omega)]; exact n1
  have hB3 := (below_setRow hB2 (Nat.le_refl _) (cv V N)).trans (hb3.mono (by simpa using hB2.size))
  clear m0 m1 n0 n1 hB2 hb3 hz2 C2
  have q0 : (w3.setRow w.heap.size (cv U N)).heap[w.heap.size]? = some (.cells (cv U N) 37 (0, 0)) := setRow_heap _ _ _ _ _ _ p0
  have q1 : (w3.setRow w.heap.size (cv U N)).heap[w.heap.size + 1]? = some (.cells zeroC 37 (0, 0)) := (setRow_other _ _ _ _ (by omega)).trans p1
  go_wp2_with (first
    | (refine wl_storeV rfl _ _ rfl w.heap.size rfl V N U rfl hVl hFl hGl p0 _ rfl ?_)
    | (refine wl_loadC rfl _ rfl w.heap.size rfl U N q0 hGl hFl ?_)
    | (refine wl_storeC rfl _ _ rfl (w.heap.size + 1) U N rfl rfl _ q1 rfl hGl hFl _ rfl ?_))
  refine retC (p := 6) rfl rfl (w.heap.size + 1) rfl _ _ hGl hFl (setRow_heap _ _ _ _ _ _ q1) ⟨rfl, ?_⟩
  exact below_setRow (below_setRow hB3 (Nat.le_refl _) _) (by omega) _

/-- The bits ahead of a place, all others nought. -/
def upto (k : Nat) (f : Nat → Bool) : List Int := mk fun j => decide (j < k) && f j
theorem upto_byt (k : Nat) (f : Nat → Bool) : Byt (upto k f) := mk_byt _
theorem upto_zero (f : Nat → Bool) : upto 0 f = Z := mk_ext _ _ fun i _ => by simp
theorem upto_all (f : Nat → Bool) : upto 104 f = mk f := mk_ext _ _ fun i hi => by simp [hi]
theorem upto_succ (k : Nat) (f : Nat → Bool) : setb (upto k f) k (f k) = upto (k + 1) f :=
  mk_ext _ _ fun i hi => by
    by_cases e : i = k
    · subst e; simp
    · rw [if_neg e]
      unfold upto
      rw [mk_bt _ i hi]
      congr 1
      rw [decide_eq_decide]
      omega
end Go.Proofs.YtnbklmmampdbfaaGreatDoor
namespace Go.Proofs.YtnbklmmampdbfaaGreatDoor
open Go Go.RowKit
set_option maxRecDepth 20000

/-- Has the second cube all that the first one has? -/
def within (V M V' M' : List Int) : Bool := (List.range 104).all fun i => !(bt M' i) || (bt M i && (bt V i == bt V' i))
theorem within_iff (V M V' M' : List Int) : within V M V' M' = true ↔ ∀ i, i < 104 → bt M' i = true → bt M i = true ∧ bt V i = bt V' i := by
  unfold within
  simp only [List.all_eq_true, List.mem_range, Bool.or_eq_true, Bool.not_eq_true', Bool.and_eq_true, beq_iff_eq]
  constructor
  · intro h i hi hm
    rcases h i hi with h' | h'
    · rw [h'] at hm; cases hm
    · exact h'
  · intro h i hi
    cases hm : bt M' i
    · exact .inl rfl
    · exact .inr (h i hi hm)

theorem within_eq (V M V' M' : List Int) (hM : Byt M) (h : meets V M V' M' = true) : (meetV V M V' M' == can V M && meetM M M' == M) = within V M V' M' := by
  rw [Bool.eq_iff_iff, Bool.and_eq_true, beq_iff_eq, beq_iff_eq, within_iff]
  have hm := (meets_iff V M V' M').1 h
  constructor
  · rintro ⟨_, g2⟩ i hi h1
    have e2 : bt (meetM M M') i = (bt M i || bt M' i) := mk_bt _ i hi
    rw [g2, h1, Bool.or_true] at e2
    exact ⟨e2, hm i hi e2 h1⟩
  · intro g
    refine ⟨mk_ext _ _ fun i hi => ?_, (mk_eq M hM _ fun i hi => ?_).symm⟩
    · have := g i hi
      revert this
      cases bt V i <;> cases bt V' i <;> cases bt M i <;> cases bt M' i <;> simp
    · have := g i hi
      revert this
      cases bt M i <;> cases bt M' i <;> simp
theorem within_no (V M V' M' : List Int) (h : meets V M V' M' = false) : within V M V' M' = false := by
  cases e : within V M V' M'
  · rfl
  · rw [within_iff] at e
    have : meets V M V' M' = true := (meets_iff _ _ _ _).2 fun i hi _ h2 => (e i hi h2).2
    rw [h] at this; cases this

set_option maxHeartbeats 2000000 in
theorem within_yes_any (V M V' M' : List Int) (hV : Byt V) (hM : Byt M) (hV' : Byt V') (hM' : Byt M') (h : meets V M V' M' = true) (w : World) :
    Calls Tryz.prog 39 #[.agg (cv V M), .agg (cv V' M')] w fun e w' => e = .returned (.bool (within V M V' M')) ∧ Below w.heap.size w w' := by
  have hVl := hV.1
  have hMl := hM.1
  have hVl' := hV'.1
  have hMl' := hM'.1
  have hAl := (meetV_byt V M V' M').1
  have hBl := (meetM_byt M M').1
  have hCl := (can_byt V M).1
  obtain ⟨r, hr⟩ : ∃ r, r = within V M V' M' := ⟨_, rfl⟩
  have C1 : Hid (∀ W, Calls Tryz.prog 62 #[.agg (cv V M), .agg (cv V' M')] W fun e w' => e = .returned (.tuple #[.agg (cv (meetV V M V' M') (meetM M M')), .bool true]) ∧ Below W.heap.size W w') := by
    have := meet_any V M V' M' hV hM hV' hM'; rwa [meetR_yes _ _ _ _ h] at this
  have C2 : Hid (∀ W, Calls Tryz.prog 63 #[.agg (cv V M)] W fun e w' => e = .returned (.agg (cv (can V M) M)) ∧ Below W.heap.size W w') := canon_any V M hV hM
  have e1 : ∀ w, (Op.equalIn 10000 37 (.agg (cv (meetV V M V' M') (meetM M M'))) (.agg (cv (can V M) M))).run Tryz.prog w = .ok r w := fun w => by rw [eqC _ _ _ _ hAl hBl hCl hMl, within_eq V M V' M' hM h, hr]
  have eg : ∀ op x y (xs ys : Array Value) w, (eqGuard op 37 x y (.agg xs) (.agg ys)).run Tryz.prog w = .ok () w := egC
  rw [← hr]
  clear hV hM hV' hM' h hr
  go_enter Tryz.func39, Tryz.ntmps39
  go_wp2_with (first
    | (refine wl_loadC rfl _ rfl w.heap.size rfl V M (heap_past _ _ _ _ (heap_new _ _ _ rfl)) hVl hMl ?_)
    | (refine wl_loadC rfl _ rfl (w.heap.size + 1) rfl V' M' (heap_new _ _ _ (by simp)) hVl' hMl' ?_))
  refine (C1.out _).mono ?_
  rintro e w1 ⟨rfl, hb1⟩
  have g0 : w1.heap[w.heap.size]? = some (.cells (cv V M) 37 (0, 0)) := by rw [hb1.block _ (by simp; omega)]; exact heap_past _ _ _ _ (heap_new _ _ _ rfl)
  have B1 : Below w.heap.size w w1 := (((Below.refl _ _).alloc (Nat.le_refl _) _).alloc (by simp) _).trans (hb1.mono (by simp; omega))
  clear hb1 C1
  have n0 := heap_past w1 (.cells (cv (meetV V M V' M') (meetM M M')) 37) _ _ g0
  have n1 := heap_new w1 (.cells (cv (meetV V M V' M') (meetM M M')) 37) _ rfl
  have B5 := B1.alloc B1.size (.cells (cv (meetV V M V' M') (meetM M M')) 37)
  obtain ⟨W, hW⟩ : ∃ W, W = w1.alloc (.cells (cv (meetV V M V' M') (meetM M M')) 37) := ⟨_, rfl⟩
  go_wp2_with (first
    | (refine wl_storeC rfl _ _ rfl w1.heap.size _ _ rfl rfl _ (heap_new _ _ _ rfl) rfl hAl hBl _ (setRow_new _ _ _ _ _ rfl) ?_))
  rw [← hW] at n0 n1 B5 ⊢
  clear hW g0 B1
  have ne1 := Later.ne W
  refine wp_region_later (by kernel_rfl) (by kernel_rfl) ?_
  go_big_quiet_step (fail)
  go_big_quiet_step (fail)
  refine qlC rfl _ rfl w1.heap.size rfl (meetV V M V' M') (meetM M M') n1 hAl hBl ?_
  simp only [Act.put, List.setIfInBounds_toArray, List.set_cons_succ, List.set_cons_zero]
  refine qlC rfl _ rfl w.heap.size rfl V M n0 hVl hMl ?_
  simp only [Act.put, List.setIfInBounds_toArray, List.set_cons_succ, List.set_cons_zero]
  go_big_quiet_want; go_big_quiet_op
  refine ⟨_, fun u => Calls.later_of (C2.out u.world), ?_⟩
  go_big_quiet_on
  go_big_quiet_step (fail)
  go_big_quiet_step (fail)
  go_big_quiet_step (fail)
  refine wpQuiet_nil ?_
  rintro w' ⟨u, rfl⟩
  go_wp2
  go_ret
  exact ⟨rfl, B5.trans (u.below.mono B5.size)⟩

set_option maxHeartbeats 2000000 in
theorem within_no_any (V M V' M' : List Int) (hV : Byt V) (hM : Byt M) (hV' : Byt V') (hM' : Byt M') (h : meets V M V' M' = false) (w : World) :
    Calls Tryz.prog 39 #[.agg (cv V M), .agg (cv V' M')] w fun e w' => e = .returned (.bool false) ∧ Below w.heap.size w w' := by
  have hVl := hV.1
  have hMl := hM.1
  have hVl' := hV'.1
  have hMl' := hM'.1
  have hzl := Z_byt.1
  have C1 : Hid (∀ W, Calls Tryz.prog 62 #[.agg (cv V M), .agg (cv V' M')] W fun e w' => e = .returned (.tuple #[.agg (cv Z Z), .bool false]) ∧ Below W.heap.size W w') := by
    have := meet_any V M V' M' hV hM hV' hM'; rwa [meetR_no _ _ _ _ h] at this
  clear hV hM hV' hM' h
  go_enter Tryz.func39, Tryz.ntmps39
  go_wp2_with (first
    | (refine wl_loadC rfl _ rfl w.heap.size rfl V M (heap_past _ _ _ _ (heap_new _ _ _ rfl)) hVl hMl ?_)
    | (refine wl_loadC rfl _ rfl (w.heap.size + 1) rfl V' M' (heap_new _ _ _ (by simp)) hVl' hMl' ?_))
  refine (C1.out _).mono ?_
  rintro e w1 ⟨rfl, hb1⟩
  have B1 : Below w.heap.size w w1 := (((Below.refl _ _).alloc (Nat.le_refl _) _).alloc (by simp) _).trans (hb1.mono (by simp; omega))
  clear hb1 C1
  have B5 := B1.alloc B1.size (.cells (cv Z Z) 37)
  obtain ⟨W, hW⟩ : ∃ W, W = w1.alloc (.cells (cv Z Z) 37) := ⟨_, rfl⟩
  go_wp2_with (first
    | (refine wl_storeC rfl _ _ rfl w1.heap.size Z Z rfl rfl _ (heap_new _ _ _ rfl) rfl hzl hzl _ (setRow_new _ _ _ _ _ rfl) ?_))
  rw [← hW] at B5 ⊢
  clear hW B1
  have ne1 := Later.ne W
  refine wp_region_later (by kernel_rfl) (by kernel_rfl) ?_
  go_big_quiet_step (fail)
  go_big_quiet_step (fail)
  go_big_quiet_step (fail)
  go_big_quiet_step (fail)
  go_big_quiet_step (fail)
  go_big_quiet_step (fail)
  go_big_quiet_step (fail)
  go_big_quiet_step (fail)
  refine wpQuiet_nil ?_
  rintro w' ⟨u, rfl⟩
  go_wp2
  go_ret
  exact ⟨rfl, B5.trans (u.below.mono B5.size)⟩

theorem within_any (V M V' M' : List Int) (hV : Byt V) (hM : Byt M) (hV' : Byt V') (hM' : Byt M') (w : World) :
    Calls Tryz.prog 39 #[.agg (cv V M), .agg (cv V' M')] w fun e w' => e = .returned (.bool (within V M V' M')) ∧ Below w.heap.size w w' := by
  cases h : meets V M V' M'
  · rw [within_no V M V' M' h]; exact within_no_any V M V' M' hV hM hV' hM' h w
  · exact within_yes_any V M V' M' hV hM hV' hM' h w

set_option maxHeartbeats 2000000 in
theorem rwithin_any (V M V' M' : List Int) (hV : Byt V) (hM : Byt M) (hV' : Byt V') (hM' : Byt M') (w : World) :
    Calls Tryz.prog 64 #[.agg (cv V M), .agg (cv V' M')] w fun e w' => e = .returned (.bool (within V M V' M')) ∧ Below w.heap.size w w' := by
  have hVl := hV.1
  have hMl := hM.1
  have hVl' := hV'.1
  have hMl' := hM'.1
  have CA : Hid (∀ k : Nat, k < 104 → ∀ W, Calls Tryz.prog 60 #[.agg (cv V M), .int .i64 (k : Int)] W fun e w' => e = .returned (.int .i64 (atI V M k)) ∧ Below W.heap.size W w') := fun k hk => at_any V M hV hM k hk
  have CB : Hid (∀ k : Nat, k < 104 → ∀ W, Calls Tryz.prog 60 #[.agg (cv V' M'), .int .i64 (k : Int)] W fun e w' => e = .returned (.int .i64 (atI V' M' k)) ∧ Below W.heap.size W w') := fun k hk => at_any V' M' hV' hM' k hk
  clear hV hM hV' hM'
  go_enter Tryz.func64, Tryz.ntmps64
  go_wp2_with fail
  go_loopw [5] (fun i wr => ∃ k : Nat, k ≤ 104 ∧ i = .int .i64 k ∧ (∀ j, j < k → bt M' j = true → bt M j = true ∧ bt V j = bt V' j) ∧ wr.heap[w.heap.size]? = some (.cells (cv V M) 37 (0, 0)) ∧ wr.heap[w.heap.size + 1]? = some (.cells (cv V' M') 37 (0, 0)) ∧ Below w.heap.size w wr) (fun i _ => 104 - (intOf i).toNat)
  case atStart => exact ⟨0, Nat.zero_le _, rfl, fun j hj => by omega, heap_past _ _ _ _ (heap_new _ _ _ rfl), heap_new _ _ _ (by simp), ((Below.refl _ _).alloc (Nat.le_refl _) _).alloc (by simp) _⟩
  case round =>
    obtain ⟨k, hk, rfl, hj, g0, g1, hb⟩ := hrel
    have HJ : Hid (∀ j, j < k → bt M' j = true → bt M j = true ∧ bt V j = bt V' j) := hj
    have hz := (Array.getElem?_eq_some_iff.1 g1).1
    clear hj
    by_cases hlt : k < 104
    · go_wp2_with (first
        | (refine wl_loadC rfl _ rfl (w.heap.size + 1) rfl V' M' g1 hVl' hMl' ?_))
      refine (CB.out k hlt _).mono ?_
      rintro e w1 ⟨rfl, hb1⟩
      have k0 : w1.heap[w.heap.size]? = some (.cells (cv V M) 37 (0, 0)) := by rw [hb1.block _ (by omega)]; exact g0
      have k1 : w1.heap[w.heap.size + 1]? = some (.cells (cv V' M') 37 (0, 0)) := by rw [hb1.block _ (by omega)]; exact g1
      have B1 := hb.trans (hb1.mono hb.size)
      have hz1 := Nat.lt_of_lt_of_le hz hb1.size
      clear g0 g1 hb hb1 hz
      by_cases hm : bt M' k = true
      · have HM : Hid (bt M' k = true) := hm
        have hy : (atI V' M' k != 2) = true := by rw [at_ne2]; exact hm
        obtain ⟨y, hye⟩ : ∃ y, y = atI V' M' k := ⟨_, rfl⟩
        obtain ⟨x, hxe⟩ : ∃ x, x = atI V M k := ⟨_, rfl⟩
        have hxy : (x != y) = !(bt M k && (bt V k == bt V' k)) := by
          rw [hxe, hye]; unfold atI; rw [hm]
          cases bt M k <;> cases bt V k <;> cases bt V' k <;> rfl
        have C1 : Hid (∀ W, Calls Tryz.prog 60 #[.agg (cv V M), .int .i64 (k : Int)] W fun e w' => e = .returned (.int .i64 x) ∧ Below W.heap.size W w') := by rw [hxe]; exact CA.out k hlt
        rw [← hye] at hy ⊢
        have HXY : Hid ((x != y) = !(bt M k && (bt V k == bt V' k))) := hxy
        clear hm hye hxe hxy
        by_cases hne : x = y
        · have hn : (x != y) = false := by simp [hne]
          have HN : Hid ((x != y) = false) := hn
          clear hne
          go_wp2_with (first
            | (refine wl_loadCg rfl _ rfl w.heap.size rfl V M k0 hVl hMl ?_))
          refine (C1.out _).mono ?_
          rintro e w2 ⟨rfl, hb2⟩
          have l0 : w2.heap[w.heap.size]? = some (.cells (cv V M) 37 (0, 0)) := by rw [hb2.block _ (by omega)]; exact k0
          have l1 : w2.heap[w.heap.size + 1]? = some (.cells (cv V' M') 37 (0, 0)) := by rw [hb2.block _ (by omega)]; exact k1
          have B2 := B1.trans (hb2.mono B1.size)
          clear k0 k1 hb2 C1 B1 hz1
          go_wp2_with fail
          go_roundw
          case rel =>
            refine ⟨k + 1, by omega, by go_num, fun j hj hm => ?_, l0, l1, B2⟩
            by_cases e : j = k
            · subst e
              have := HXY.out
              rw [HN.out] at this
              simpa using this.symm
            · exact HJ.out j (by omega) hm
          case measure => simp [intOf]; omega
        · have hn : (x != y) = true := by simpa using hne
          have HN : Hid ((x != y) = true) := hn
          clear hne
          go_wp2_with (first
            | (refine wl_loadCg rfl _ rfl w.heap.size rfl V M k0 hVl hMl ?_))
          refine (C1.out _).mono ?_
          rintro e w2 ⟨rfl, hb2⟩
          have B2 := B1.trans (hb2.mono B1.size)
          clear k0 k1 hb2 C1 B1 hz1
          go_wp2_with fail
          go_ret
          refine ⟨ret_bool ?_, B2⟩
          cases e : within V M V' M'
          · rfl
          · have h3 := (within_iff V M V' M').1 e k hlt HM.out
            have := HXY.out
            rw [HN.out, h3.1, h3.2] at this
            simp at this
      · have hm' : bt M' k = false := by simpa using hm
        have HM : Hid (bt M' k = false) := hm'
        have ea : atI V' M' k = 2 := by unfold atI; rw [hm']; rfl
        rw [ea]
        clear hm hm' ea
        go_wp2_with fail
        go_roundw
        case rel =>
          refine ⟨k + 1, by omega, by go_num, fun j hj hm => ?_, k0, k1, B1⟩
          by_cases e : j = k
          · subst e; rw [HM.out] at hm; cases hm
          · exact HJ.out j (by omega) hm
        case measure => simp [intOf]; omega
    · obtain rfl : k = 104 := by omega
      go_wp2_with fail
      go_ret
      exact ⟨ret_bool ((within_iff V M V' M').2 HJ.out).symm, hb⟩
end Go.Proofs.YtnbklmmampdbfaaGreatDoor
namespace Go.Proofs.YtnbklmmampdbfaaGreatDoor
open Go Go.RowKit
set_option maxRecDepth 20000

def withinR (r a : RuleM) : Bool := within r.cube.1 r.cube.2 a.cube.1 a.cube.2
/-- Rules that lie within one that was kept are left out. -/
def trimO {α : Type} (q : α → α → Bool) : List α → List α → List α
  | out, [] => out
  | out, x :: l => if out.any (q x) then trimO q out l else trimO q (out ++ [x]) l
def trimT (l : List RuleM) : List RuleM := trimO withinR [] l
theorem trimO_take {α : Type} (q : α → α → Bool) (l : List α) (k : Nat) (x : α) (h : l[k]? = some x) : ∀ out, trimO q out (l.take (k + 1)) = if (trimO q out (l.take k)).any (q x) then trimO q out (l.take k) else trimO q out (l.take k) ++ [x] := by
  obtain ⟨hk, rfl⟩ := List.getElem?_eq_some_iff.1 h
  rw [List.take_succ_eq_append_getElem hk]
  generalize l.take k = t
  generalize l[k] = x
  induction t with
  | nil => intro out; simp [trimO]
  | cons y t ih =>
    intro out
    rw [List.cons_append, trimO, trimO]
    split
    · exact ih out
    · exact ih _
theorem trimO_sub {α : Type} (q : α → α → Bool) : ∀ (l out : List α) (x : α), x ∈ trimO q out l → x ∈ out ∨ x ∈ l
  | [], out, x, h => .inl h
  | y :: l, out, x, h => by
    rw [trimO] at h
    split at h
    · rcases trimO_sub q l out x h with h | h
      · exact .inl h
      · exact .inr (by simp [h])
    · rcases trimO_sub q l (out ++ [y]) x h with h | h
      · rcases List.mem_append.1 h with h | h
        · exact .inl h
        · exact .inr (by simp at h; simp [h])
      · exact .inr (by simp [h])
theorem trimO_len {α : Type} (q : α → α → Bool) : ∀ (l out : List α), (trimO q out l).length ≤ out.length + l.length
  | [], out => by simp [trimO]
  | y :: l, out => by
    rw [trimO]
    split
    · have := trimO_len q l out; simp; omega
    · have := trimO_len q l (out ++ [y]); simp at this ⊢; omega
theorem any_take_no {α : Type} {p : α → Bool} {l : List α} {k : Nat} {x : α} (h : (l.take k).any p = false) (hx : l[k]? = some x) (hp : p x = false) : (l.take (k + 1)).any p = false := by
  rw [List.take_add_one, hx, List.any_append, h]
  simp [hp]
theorem any_take_yes {α : Type} {p : α → Bool} {l : List α} {k : Nat} {x : α} (hx : l[k]? = some x) (hp : p x = true) : l.any p = true := List.any_eq_true.2 ⟨x, List.mem_of_getElem? hx, hp⟩

set_option maxHeartbeats 8000000 in
set_option maxRecDepth 100000 in
theorem trim_any (l : List RuleM) (hl0 : ∀ r ∈ l, okR8 r) (hn1 : l.length ≤ 100000) (vl : Value) (w : World) (hl : RulesAt w vl l) :
    Calls Tryz.prog 20 #[vl] w fun e w' => (∃ v, e = .returned v ∧ w'.ownsRow w.heap.size 39 28 v (trimT l).length (gcells ruleV (trimT l))) ∧ Below w.heap.size w w' := by
  have WI : Hid (∀ (V M V' M' : List Int) W, Byt V → Byt M → Byt V' → Byt M' → Calls Tryz.prog 39 #[.agg (cv V M), .agg (cv V' M')] W fun e w' => e = .returned (.bool (within V M V' M')) ∧ Below W.heap.size W w') := fun V M V' M' W h1 h2 h3 h4 => within_any V M V' M' h1 h2 h3 h4 W
  obtain ⟨o, cap, rfl, hc1, hc2⟩ := GSl.slice hl
  obtain ⟨n, hn0⟩ : ∃ n, n = l.length := ⟨_, rfl⟩
  have HN : Hid (n = l.length) := hn0
  rw [← hn0] at hl hc1 hn1 ⊢
  have HL : Hid (RulesAt w (.slice o n cap) l) := hl
  have HOK : Hid (∀ r ∈ l, okR8 r) := hl0
  unfold maxLen at hc2
  clear hl hn0 hl0
  go_enter Tryz.func20, Tryz.ntmps20
  go_wp2_with fail
  go_step3
  go_wp2_with fail
  go_step3
  go_wp2_with fail
  go_loopw [3, 10] (fun v i wr => ∃ (k : Nat) (T : List RuleM), k ≤ n ∧ i = .int .i64 (k : Int) ∧ Hid (T = trimO withinR [] (l.take k)) ∧ T.length ≤ k ∧ Hid (∀ r ∈ T, okR8 r) ∧ wr.ownsRow w.heap.size 39 28 v T.length (gcells ruleV T) ∧ Below w.heap.size w wr) (fun _ i _ => n - (intOf i).toNat)
  case atStart => exact ⟨0, [], Nat.zero_le _, rfl, rfl, Nat.le_refl _, fun r hr => by simp at hr, World.ownsRow_nil _ _ _ _, Below.refl _ _⟩
  case round =>
    obtain ⟨k, T, hk, rfl, HT, hTk, HTO, hown, hb⟩ := hrel
    have HO : Hid (wr.ownsRow w.heap.size 39 28 u3 T.length (gcells ruleV T)) := hown
    have HB : Hid (Below w.heap.size w wr) := hb
    obtain ⟨oT, cT, rfl⟩ := gown_slice hown
    clear hown hb
    by_cases hlt : k < n
    · have hlt' : (k : Int) < (n : Int) := by omega
      obtain ⟨g, off, cur, ty, fr, r, rfl, hg, hc, hxk⟩ := (GSl.below HL.out HB.out).at k hlt
      have hr : okR8 r := HOK.out r (List.mem_of_getElem? hxk)
      have HR : Hid (okR8 r) := hr
      have hsz := ruleV_size hr
      have K1 : Hid (wr.heap[g]? = some (.cells cur ty fr)) := hg
      have H1 : Hid (∀ j, j < 28 → cur[off + k * 28 + j]? = (ruleV r)[j]?) := hc
      have KN : Hid ((wr.alloc (.cells (ruleV r) 39)).heap[wr.heap.size]? = some (.cells (ruleV r) 39 (0, 0))) := heap_new _ _ _ rfl
      have BN : Hid (Below w.heap.size w (wr.alloc (.cells (ruleV r) 39))) := HB.out.alloc HB.out.size _
      have ON : Hid ((wr.alloc (.cells (ruleV r) 39)).ownsRow w.heap.size 39 28 (.slice oT T.length cT) T.length (gcells ruleV T)) := HO.out.alloc _
      have HNX : Hid (trimO withinR [] (l.take (k + 1)) = if T.any (withinR r) then T else T ++ [r]) := by
        show _ = _
        rw [HT.out]
        exact trimO_take withinR l k r hxk []
      clear hg hc hxk hr
      obtain ⟨nT, hnT⟩ : ∃ nT, nT = T.length := ⟨_, rfl⟩
      have HNT : Hid (nT = T.length) := hnT
      rw [← hnT] at hTk HO ON ⊢
      have hN : wr.heap.size < (wr.alloc (.cells (ruleV r) 39)).heap.size := by simp
      clear hnT
      go_wp2_with (first
        | (refine wl_loadE (E := RuleE) RuleOk rfl _ rfl g (off + k * 28) rfl cur ty fr (ruleV r) hsz K1.out H1.out ?_)
        | (refine wl_storeE (E := RuleE) RuleOk rfl _ _ rfl wr.heap.size (ruleV r) (rule_fits HR.out) rfl rfl _ (heap_new _ _ _ rfl) rfl _ (setRow_new _ _ _ _ _ rfl) ?_))
      obtain ⟨wo, hwo⟩ : ∃ wo : World, wo = wr.alloc (.cells (ruleV r) 39) := ⟨_, rfl⟩
      obtain ⟨gx, hgx⟩ : ∃ gx, gx = wr.heap.size := ⟨_, rfl⟩
      rw [← hwo, ← hgx] at KN
      rw [← hwo] at BN ON ⊢
      rw [← hgx]
      clear hwo hgx HO HB hN K1
      go_loopw [16] (fun i w2 => ∃ j : Nat, j ≤ nT ∧ i = .int .i64 (j : Int) ∧ Hid ((T.take j).any (withinR r) = false) ∧ w2.heap[gx]? = some (.cells (ruleV r) 39 (0, 0)) ∧ w2.ownsRow w.heap.size 39 28 (.slice oT nT cT) nT (gcells ruleV T) ∧ Below w.heap.size w w2) (fun i _ => nT - (intOf i).toNat)
      case atStart => exact ⟨0, Nat.zero_le _, rfl, rfl, KN.out, ON.out, BN.out⟩
      case round =>
        clear KN ON BN
        obtain ⟨j, hj, rfl, HJ, hkn, hon, hbn⟩ := hrel
        have KX : Hid (wr.heap[gx]? = some (.cells (ruleV r) 39 (0, 0))) := hkn
        have OX : Hid (wr.ownsRow w.heap.size 39 28 (.slice oT nT cT) nT (gcells ruleV T)) := hon
        have BX : Hid (Below w.heap.size w wr) := hbn
        clear hkn hon hbn
        by_cases hjt : j < nT
        · have hjt' : (j : Int) < (nT : Int) := by omega
          have hsl : RulesAt wr (.slice oT nT cT) T := by
            have := OX.out
            rw [HNT.out] at this ⊢
            exact gsl_of (E := RuleE) this fun c hc => ruleV_size (HTO.out c hc)
          obtain ⟨g2, off2, cur2, ty2, fr2, a, rfl, hg2, hc2', haj⟩ := hsl.at j hjt
          have ha : okR8 a := HTO.out a (List.mem_of_getElem? haj)
          have HAO : Hid (okR8 a) := ha
          have hsa := ruleV_size ha
          have K2 : Hid (wr.heap[g2]? = some (.cells cur2 ty2 fr2)) := hg2
          have H2 : Hid (∀ q, q < 28 → cur2[off2 + j * 28 + q]? = (ruleV a)[q]?) := hc2'
          have HAJ : Hid (T[j]? = some a) := haj
          have KA : Hid ((wr.alloc (.cells (ruleV a) 39)).heap[wr.heap.size]? = some (.cells (ruleV a) 39 (0, 0))) := heap_new _ _ _ rfl
          have KY : Hid ((wr.alloc (.cells (ruleV a) 39)).heap[gx]? = some (.cells (ruleV r) 39 (0, 0))) := heap_past _ _ _ _ KX.out
          have BY : Hid (Below w.heap.size w (wr.alloc (.cells (ruleV a) 39))) := BX.out.alloc BX.out.size _
          have OY : Hid ((wr.alloc (.cells (ruleV a) 39)).ownsRow w.heap.size 39 28 (.slice (some ⟨g2, off2, none⟩) nT cT) nT (gcells ruleV T)) := OX.out.alloc _
          clear hsl hg2 hc2' haj ha
          go_wp2_with (first
            | (refine wl_loadE (E := RuleE) RuleOk rfl _ rfl g2 (off2 + j * 28) rfl cur2 ty2 fr2 (ruleV a) hsa K2.out H2.out ?_)
            | (refine wl_storeE (E := RuleE) RuleOk rfl _ _ rfl wr.heap.size (ruleV a) (rule_fits HAO.out) rfl rfl _ (heap_new _ _ _ rfl) rfl _ (setRow_new _ _ _ _ _ rfl) ?_)
            | (refine wl_loadE (E := CubE) CubOk rfl _ rfl wr.heap.size 1 rfl _ _ _ (cv a.cube.1 a.cube.2) (cv_size _ _ HAO.out.1.1 HAO.out.2.1) KA.out (rule_at HAO.out).2.1 ?_)
            | (refine wl_loadE (E := CubE) CubOk rfl _ rfl gx 1 rfl _ _ _ (cv r.cube.1 r.cube.2) (cv_size _ _ HR.out.1.1 HR.out.2.1) KY.out (rule_at HR.out).2.1 ?_))
          refine (WI.out _ _ _ _ _ HR.out.1 HR.out.2 HAO.out.1 HAO.out.2).mono ?_
          rintro e w1 ⟨rfl, hb1⟩
          have BZ : Hid (Below w.heap.size w w1) := BY.out.trans (hb1.mono BY.out.size)
          have KZ : Hid (w1.heap[gx]? = some (.cells (ruleV r) 39 (0, 0))) := (hb1.block _ (Array.getElem?_eq_some_iff.1 KY.out).1).trans KY.out
          have OZ : Hid (w1.ownsRow w.heap.size 39 28 (.slice (some ⟨g2, off2, none⟩) nT cT) nT (gcells ruleV T)) := gown_below OY.out hb1
          clear hb1
          cases hwi : within r.cube.1 r.cube.2 a.cube.1 a.cube.2 with
          | true =>
            have HE : Hid (T = trimO withinR [] (l.take (k + 1))) := by
              show _ = _
              rw [HNX.out, if_pos (any_take_yes HAJ.out hwi)]
            clear hwi
            go_wp2_with fail
            go_roundw
            case rel => exact ⟨k + 1, T, by omega, by go_num, HE.out, by have := HNT.out; omega, HTO, by have := OZ.out; rw [HNT.out] at this ⊢; exact this, BZ.out⟩
            case measure => simp [intOf]; omega
          | false =>
            have HJ2 : Hid ((T.take (j + 1)).any (withinR r) = false) := any_take_no HJ.out HAJ.out hwi
            clear hwi
            go_wp2_with fail
            go_roundw
            case rel => exact ⟨j + 1, by omega, by go_num, HJ2, KZ.out, OZ.out, BZ.out⟩
            case measure => simp [intOf]; omega
        · have hjt' : ¬ (j : Int) < (nT : Int) := by omega
          have HE : Hid (T ++ [r] = trimO withinR [] (l.take (k + 1))) := by
            have h1 := HNT.out
            have h2 := HJ.out
            rw [List.take_of_length_le (by omega)] at h2
            show _ = _
            rw [HNX.out, h2]
            rfl
          have ON2 : Hid ((wr.alloc (.cells (ruleV r) 39)).ownsRow w.heap.size 39 28 (.slice oT nT cT) T.length (gcells ruleV T)) := by
            have := OX.out.alloc (.cells (ruleV r) 39)
            rw [HNT.out] at this ⊢; exact this
          go_wp2_with (first
            | (refine wl_loadE (E := RuleE) RuleOk rfl _ rfl gx 0 rfl _ _ _ (ruleV r) hsz KX.out (own_cells _ _) ?_)
            | (refine wl_buildE (E := RuleE) RuleOk rfl _ rfl (ruleV r) hsz rfl ?_)
            | (at_builtin; refine of_stopT ?_))
          unfold StopT
          refine wl_appendE (E := RuleE) RuleOk ruleV rfl _ _ rfl w.heap.size (.slice oT nT cT) T r (rule_fits HR.out) rfl ON2.out wr.heap.size 1 rfl (heap_new _ _ _ rfl) (by have := HNT.out; omega) (by have := BX.out.size; simp; omega) ?_
          intro v' w3 hown3 hgr3 _
          have B3 : Hid (Below w.heap.size w w3) := (BX.out.alloc BX.out.size _).trans ((Below.refl _ _).grown hgr3 (BX.out.alloc BX.out.size _).size fun k hk => (ON2.out.lt k hk).1)
          have O3 : Hid (w3.ownsRow w.heap.size 39 28 v' (T ++ [r]).length (gcells ruleV (T ++ [r]))) := hown3
          clear hown3 hgr3
          simp only [Act.put, List.setIfInBounds_toArray, List.set_cons_succ, List.set_cons_zero]
          go_wp2_with fail
          go_roundw
          case rel => exact ⟨k + 1, T ++ [r], by omega, by go_num, HE.out, by have := HNT.out; simp; omega, fun q hq => by
              rcases List.mem_append.1 hq with hq | hq
              · exact HTO.out q hq
              · obtain rfl : q = r := by simpa using hq
                exact HR.out, O3.out, B3.out⟩
          case measure => simp [intOf]; omega
    · have hlt' : ¬ (k : Int) < (n : Int) := by omega
      have HE : Hid (T = trimT l) := by
        have e := HN.out
        show _ = _
        rw [HT.out, List.take_of_length_le (by omega)]
        rfl
      go_wp2_with fail
      go_ret
      exact ⟨⟨_, rfl, by rw [← HE.out]; exact HO.out⟩, HB.out⟩
end Go.Proofs.YtnbklmmampdbfaaGreatDoor
namespace Go.Proofs.YtnbklmmampdbfaaGreatDoor
open Go Go.RowKit
set_option maxRecDepth 20000

/-- The header behind the first k stores of 'put'. -/
def putN (L : List Int) (at0 size : Nat) (v : Int) : Nat → List Int
  | 0 => L
  | k + 1 => (putN L at0 size v k).set (at0 + k) (v / 2 ^ (8 * (size - 1 - k)) % 256)
theorem putN_length (L : List Int) (at0 size : Nat) (v : Int) (k : Nat) : (putN L at0 size v k).length = L.length := by
  induction k with
  | zero => rfl
  | succ k ih => simp [putN, ih]


set_option maxHeartbeats 1000000 in
theorem put_any (L : List Int) (hL : L.length = 13) (at0 size : Nat) (v : Int) (w : World) (hs : at0 + size ≤ 13) (hs4 : size ≤ 4) (_hv0 : 0 ≤ v) (_hv1 : v < 4294967296) :
    Calls Tryz.prog 105 #[.agg (hv L), .int .i64 at0, .int .i64 size, .int .u32 v] w fun e w' => e = .returned (.agg (hv (putN L at0 size v size))) ∧ Below w.heap.size w w' := by
  go_enter Tryz.func105, Tryz.ntmps105
  go_wp2
  go_loopw [11] (fun i wr => ∃ k : Nat, k ≤ size ∧ i = .int .i64 k ∧ wr = (w.alloc (.cells (hv (putN L at0 size v k)) 31)).alloc (.cells zero26 31)) (fun i _ => size - (intOf i).toNat)
  case atStart => exact ⟨0, Nat.zero_le _, rfl, rfl⟩
  case round =>
    obtain ⟨k, hk, rfl, rfl⟩ := hrel
    have hlen := putN_length L at0 size v k
    by_cases hlt : k < size
    · have hc := hv_at (putN L at0 size v k) (by omega) (at0 + k) (by omega)
      go_wp2
      go_roundw
      case rel => exact ⟨k + 1, by omega, by go_num, by rw [hv_set]; rfl⟩
      case measure => simp [intOf]; omega
    · obtain rfl : k = size := by omega
      go_wp2_with (first
        | (refine wl_load26 rfl _ rfl w.heap.size rfl (putN L at0 k v k) (heap_past _ _ _ _ (heap_new _ _ _ rfl)) (by omega) ?_)
        | (refine wl_store26 rfl _ _ rfl (w.heap.size + 1) (putN L at0 k v k) rfl rfl _ (heap_new _ _ _ (by simp)) rfl (by omega) _ (setRow_new _ _ _ _ _ (by simp)) ?_))
      refine ret26 (p := 8) rfl rfl (w.heap.size + 1) rfl (putN L at0 k v k) (by omega) (heap_new _ _ _ (by simp)) ⟨rfl, ?_⟩
      exact ((Below.refl _ _).alloc (Nat.le_refl _) _).alloc (by simp) _

theorem or_byte (a b : Int) (ha0 : 0 ≤ a) (ha : a < 16777216) (hb0 : 0 ≤ b) (hb : b < 256) : bits .or .u32 (a * 256 % 4294967296) (b % 4294967296) = a * 256 + b := by
  rw [show a * 256 % 4294967296 = a * 256 by omega, show b % 4294967296 = b by omega]
  exact bits_join .u32 32 (by decide) (fun n h0 h1 => by rw [IntKind.wrap_u32]; omega) 8 (a * 256) b (by omega) (by omega) (by omega) hb0 (by omega) (by omega)

/-- The number that the first k bytes behind 'at0' make. -/
def getN (L : List Int) (at0 : Nat) : Nat → Int
  | 0 => 0
  | k + 1 => getN L at0 k * 256 + L.getD (at0 + k) 0
theorem getN_bd (L : List Int) (hL : Byt L) (at0 : Nat) (k : Nat) : 0 ≤ getN L at0 k ∧ getN L at0 k < 256 ^ k := by
  induction k with
  | zero => simp [getN]
  | succ k ih =>
    have := hL.2 (at0 + k)
    simp only [getN, Int.pow_succ]
    omega

set_option maxHeartbeats 1000000 in
theorem get_any (L : List Int) (hL : Byt L) (at0 size : Nat) (w : World) (hs : at0 + size ≤ 13) (hs4 : size ≤ 4) :
    Calls Tryz.prog 110 #[.agg (hv L), .int .i64 at0, .int .i64 size] w fun e w' => e = .returned (.int .u32 (getN L at0 size)) ∧ w' = w.alloc (.cells (hv L) 31) := by
  have hl := hL.1
  go_enter Tryz.func110, Tryz.ntmps110
  go_wp2
  go_loop [7, 10] (fun v i => ∃ k : Nat, k ≤ size ∧ i = .int .i64 k ∧ v = .int .u32 (getN L at0 k)) (fun _ i => size - (intOf i).toNat)
  case atStart => exact ⟨0, Nat.zero_le _, rfl, rfl⟩
  case round =>
    obtain ⟨k, hk, rfl, rfl⟩ := hrel
    have hb := getN_bd L hL at0 k
    by_cases hlt : k < size
    · have hc := hv_at L hl (at0 + k) (by omega)
      have hx := hL.2 (at0 + k)
      go_wp2
      go_round
      case rel =>
        refine ⟨k + 1, by omega, by go_num, ?_⟩
        have h24 : getN L at0 k < 16777216 := by
          have : (256 : Int) ^ k ≤ 256 ^ 3 := by
            rcases (show k = 0 ∨ k = 1 ∨ k = 2 ∨ k = 3 by omega) with h | h | h | h <;> subst h <;> decide
          have h2 : (256 : Int) ^ 3 = 16777216 := by decide
          omega
        have he := or_byte (getN L at0 k) (L.getD (at0 + k) 0) hb.1 h24 hx.1 hx.2
        rw [show L[at0 + k]?.getD 0 = L.getD (at0 + k) 0 from rfl, he]
        rfl
      case measure => simp [intOf]; omega
    · obtain rfl : k = size := by omega
      go_wp2
      go_ret
      exact ⟨rfl, rfl⟩
end Go.Proofs.YtnbklmmampdbfaaGreatDoor
namespace Go.Proofs.YtnbklmmampdbfaaGreatDoor
open Go Go.RowKit
set_option maxRecDepth 20000

def placesT : List Int := [0, 32, 32, 32, 64, 16, 80, 16, 96, 8]
def firstOf (f : Int) : Int := placesT.getD (2 * f).toNat 0
def widthOf (f : Int) : Int := placesT.getD (2 * f + 1).toNat 0

/-- The table of the fields lies in memory as the program's text lays it. -/
def Places (w : World) : Prop := ∀ k, k < 10 → w.cell? ⟨0, k, none⟩ = some (.int .i64 (placesT.getD k 0))
theorem Places.later {w w' : World} (h : Places w) {B : Nat} (hB : 0 < B) (hb : Below B w w') : Places w' := fun k hk => by
  rw [hb.cell (p := ⟨0, k, none⟩) hB]; exact h k hk
theorem Places.pos {w : World} (h : Places w) : 0 < w.heap.size := World.block_lt_of_cell? w ⟨0, 0, none⟩ (h 0 (by decide))

set_option maxHeartbeats 400000 in
theorem place_no (f : Int) (w : World) (hf : f < 0 ∨ 5 ≤ f) :
    Calls Tryz.prog 82 #[.int .i64 f] w fun e w' => e = .returned (.tuple #[.int .i64 0, .int .i64 0, .int .i64 1]) ∧ w' = w := by
  by_cases h : f < 0
  · go_enter Tryz.func82, Tryz.ntmps82
    go_wp2
    go_ret3
    exact ⟨rfl, rfl⟩
  · have h5 : 5 ≤ f := by omega
    go_enter Tryz.func82, Tryz.ntmps82
    go_wp2
    go_ret3
    exact ⟨rfl, rfl⟩

set_option maxHeartbeats 400000 in
theorem place_in (f : Int) (w : World) (h0 : 0 ≤ f) (h1 : f < 5) (hP : Places w) :
    Calls Tryz.prog 82 #[.int .i64 f] w fun e w' => e = .returned (.tuple #[.int .i64 (firstOf f), .int .i64 (widthOf f), .int .i64 0]) ∧ Below w.heap.size w w' := by
  have c0 := hP 0 (by decide)
  have c1 := hP 1 (by decide)
  have c2 := hP 2 (by decide)
  have c3 := hP 3 (by decide)
  have c4 := hP 4 (by decide)
  have c5 := hP 5 (by decide)
  have c6 := hP 6 (by decide)
  have c7 := hP 7 (by decide)
  have c8 := hP 8 (by decide)
  have c9 := hP 9 (by decide)
  clear hP
  rcases (show f = 0 ∨ f = 1 ∨ f = 2 ∨ f = 3 ∨ f = 4 by omega) with h | h | h | h | h
  all_goals
    subst h
    go_enter Tryz.func82, Tryz.ntmps82
    go_wp2
    go_quiet (fail)
    go_wp2
    go_ret3
    exact ⟨rfl, below_drewN (Below.refl _ _) _⟩
end Go.Proofs.YtnbklmmampdbfaaGreatDoor
namespace Go.Proofs.YtnbklmmampdbfaaGreatDoor
open Go Go.RowKit
set_option maxRecDepth 20000

theorem first_in (f : Int) (w : World) (h0 : 0 ≤ f) (h1 : f < 5) : Calls Tryz.prog 86 #[.int .i64 f] w fun e w' => e = .returned (.int .i64 (firstOf f)) ∧ w' = w := by
  rcases (show f = 0 ∨ f = 1 ∨ f = 2 ∨ f = 3 ∨ f = 4 by omega) with h | h | h | h | h
  all_goals
    subst h
    go_enter Tryz.func86, Tryz.ntmps86
    go_wp2
    go_ret
    exact ⟨rfl, rfl⟩
theorem first_no (f : Int) (w : World) (hf : f < 0 ∨ 5 ≤ f) : Calls Tryz.prog 86 #[.int .i64 f] w fun e w' => e = .returned (.int .i64 (-1)) ∧ w' = w := by
  have e0 : (f == 0) = false := by simp; omega
  have e1 : (f == 1) = false := by simp; omega
  have e2 : (f == 2) = false := by simp; omega
  have e3 : (f == 3) = false := by simp; omega
  have e4 : (f == 4) = false := by simp; omega
  go_enter Tryz.func86, Tryz.ntmps86
  go_wp2
  go_ret
  exact ⟨rfl, rfl⟩
theorem width_in (f : Int) (w : World) (h0 : 0 ≤ f) (h1 : f < 5) : Calls Tryz.prog 87 #[.int .i64 f] w fun e w' => e = .returned (.int .i64 (widthOf f)) ∧ w' = w := by
  rcases (show f = 0 ∨ f = 1 ∨ f = 2 ∨ f = 3 ∨ f = 4 by omega) with h | h | h | h | h
  all_goals
    subst h
    go_enter Tryz.func87, Tryz.ntmps87
    go_wp2
    go_ret
    exact ⟨rfl, rfl⟩
end Go.Proofs.YtnbklmmampdbfaaGreatDoor
/-
  The contract of Go's library that this seat's proofs use, laid at its program by the kit's own tool.
-/
namespace Go.Proofs
open Go.Shelf
set_option maxRecDepth 20000
def Tryz.lays128_ren : Go.Shelf.Ren := ⟨fun | 128 => 104 | n => n, fun | 51 => 33 | 3 => 3 | 4 => 4 | 46 => 160 | 5 => 5 | 9 => 9 | n => n, fun | n => n⟩
theorem Tryz.lays128 : Go.Proofs.Lays.n128 Tryz.prog Tryz.lays128_ren := {
  mixed := by kernel_rfl
  f128 := Tryz.func104.trans (congrArg some (by kernel_rfl))
  t3 := Tryz.underlying3
  a3 := Tryz.isAgg3
  z3 := Tryz.sizeOf3
  v3 := Tryz.zeroValue3
  t4 := Tryz.underlying4
  a4 := Tryz.isAgg4
  z4 := Tryz.sizeOf4
  v4 := Tryz.zeroValue4
  t5 := Tryz.underlying5
  a5 := Tryz.isAgg5
  z5 := Tryz.sizeOf5
  v5 := Tryz.zeroValue5
  t9 := Tryz.underlying9
  a9 := Tryz.isAgg9
  z9 := Tryz.sizeOf9
  v9 := Tryz.zeroValue9
  t46 := Tryz.underlying160
  a46 := Tryz.isAgg160
  z46 := Tryz.sizeOf160
  v46 := Tryz.zeroValue160
  t51 := Tryz.underlying33
  a51 := Tryz.isAgg33
  z51 := Tryz.sizeOf33
  v51 := Tryz.zeroValue33 }
theorem Tryz.bits_Len32 (x : Int) (w : World) (h0 : 0 ≤ x) (h1 : x ≤ 4294967295) :
    Calls Tryz.prog 104 #[.int .u32 x] w fun e w' => e = .returned (.int .i64 (Lib.bitLen x.toNat)) ∧ w' = w := Any.bits_Len32 Tryz.lays128 x w h0 h1
end Go.Proofs
namespace Go.Proofs.YtnbklmmampdbfaaGreatDoor
open Go Go.RowKit
set_option maxRecDepth 20000

theorem bitLen_le (k : Nat) : ∀ x : Nat, x < 2 ^ 64 → (Lib.bitLen x ≤ k ↔ x < 2 ^ k) := by
  induction k with
  | zero =>
    intro x hx
    by_cases h : x = 0
    · subst h; simp [show Lib.bitLen 0 = 0 from rfl]
    · rw [Lib.bitLen_half x h hx]; simp; omega
  | succ k ih =>
    intro x hx
    by_cases h : x = 0
    · subst h; simp [show Lib.bitLen 0 = 0 from rfl]
      exact Nat.pow_pos (by decide)
    · rw [Lib.bitLen_half x h hx, Nat.pow_succ]
      have := ih (x / 2) (by omega)
      omega

abbrev Z13 : List Int := [0, 0, 0, 0, 0, 0, 0, 0, 0, 0, 0, 0, 0]

theorem ret26e {fn : Func} {R : Ending → World → Prop} {a : Act} {w : World} {p u : Tmp} (hr : fn.results = #[.cell p 31, .tmp u]) (hd : a.defers = []) (g : Nat) (hp : a.tmps.getD p undef = .pointer (some ⟨g, 0, none⟩)) (L : List Int) (hL : L.length = 13)
    (hg : w.heap[g]? = some (.cells (hv L) 31 (0, 0))) (v : Value) (hu : a.tmps.getD u undef = v) (h : R (.returned (.tuple #[.agg (hv L), v])) w) : bodyPost Tryz.prog fn R .ret a w := by
  refine bodyPost_ret (v := .tuple #[.agg (hv L), v]) ?_ hd h
  rw [results_cell_tmp hr, hp, hu]
  simp [asAddr, run_loadVar_row w g 31 31 (hv L) (0, 0) _ hg Tryz.underlying31 rfl (size26 L hL)]


set_option maxHeartbeats 400000 in
theorem with_no (L : List Int) (_hL : Byt L) (f v : Int) (w : World) (hf : f < 0 ∨ 5 ≤ f) :
    Calls Tryz.prog 83 #[.agg (hv L), .int .i64 f, .int .u32 v] w fun e w' => e = .returned (.tuple #[.agg (hv Z13), .int .i64 1]) ∧ Below w.heap.size w w' := by
  go_enter Tryz.func83, Tryz.ntmps83
  go_wp2_with (first
    | (go_at_call 82; refine (place_no _ _ hf).mono ?_; rintro e w' ⟨rfl, rfl⟩)
    | (refine wl_store26 rfl _ _ rfl (w.heap.size + 1) Z13 rfl rfl _ (heap_new _ _ _ (by simp)) rfl rfl _ (setRow_new _ _ _ _ _ (by simp)) ?_))
  refine ret26e (p := 6) (u := 7) rfl rfl (w.heap.size + 1) rfl Z13 rfl (heap_new _ _ _ (by simp)) _ rfl ⟨rfl, ?_⟩
  exact ((Below.refl _ _).alloc (Nat.le_refl _) _).alloc (by simp) _


set_option maxHeartbeats 1000000 in
theorem with_core (L : List Int) (hL : Byt L) (f : Int) (at0 size n : Nat) (w : World) (hs : at0 + size ≤ 13) (hs4 : size ≤ 4) (hn : n ≤ 4294967295) (hP : Places w)
    (hpl : ∀ W, Places W → Calls Tryz.prog 82 #[.int .i64 f] W fun e w' => e = .returned (.tuple #[.int .i64 (8 * (at0 : Int)), .int .i64 (8 * (size : Int)), .int .i64 0]) ∧ Below W.heap.size W w') (hb : (Lib.bitLen n : Int) ≤ 8 * (size : Int)) :
    Calls Tryz.prog 83 #[.agg (hv L), .int .i64 f, .int .u32 n] w fun e w' => e = .returned (.tuple #[.agg (hv (putN L at0 size n size)), .int .i64 0]) ∧ Below w.heap.size w w' := by
  have hl := hL.1
  have hp := hP.pos
  have hn' : (n : Int) ≤ 4294967295 := by omega
  have HN : Hid ((n : Int) ≤ 4294967295) := hn'
  have HP : Hid (∀ W, Places W → Calls Tryz.prog 82 #[.int .i64 f] W fun e w' => e = .returned (.tuple #[.int .i64 (8 * (at0 : Int)), .int .i64 (8 * (size : Int)), .int .i64 0]) ∧ Below W.heap.size W w') := hpl
  clear hn hn' hpl
  go_enter Tryz.func83, Tryz.ntmps83
  go_wp2_with fail
  refine (HP.out _ (hP.later hp (((Below.refl _ _).alloc (Nat.le_refl _) _).alloc (by simp) _))).mono ?_
  clear HP
  rintro e w1 ⟨rfl, hb1⟩
  have g1 : w1.heap[w.heap.size]? = some (.cells (hv L) 31 (0, 0)) := by
    rw [hb1.block _ (by simp; omega)]; exact heap_past _ _ _ _ (heap_new _ _ _ rfl)
  have g2 : w1.heap[w.heap.size + 1]? = some (.cells zero26 31 (0, 0)) := by
    rw [hb1.block _ (by simp)]; exact heap_new _ _ _ (by simp)
  clear hP
  go_wp2_with fail
  refine (Tryz.bits_Len32 _ _ (Int.natCast_nonneg n) HN.out).mono ?_
  rintro e w' ⟨rfl, rfl⟩
  go_wp2_with (refine wl_load26 rfl _ rfl w.heap.size rfl L g1 hl ?_)
  refine (put_any L hl at0 size n w' hs hs4 (Int.natCast_nonneg n) (by have := HN.out; omega)).mono ?_
  rintro e w2 ⟨rfl, hb2⟩
  have hz1 := hb1.size
  have hlt : w.heap.size + 1 < w'.heap.size := by simp at hz1; omega
  have g3 : w2.heap[w.heap.size + 1]? = some (.cells zero26 31 (0, 0)) := by rw [hb2.block _ hlt]; exact g2
  have hpl := putN_length L at0 size n size
  go_wp2_with (refine wl_store26 rfl _ _ rfl (w.heap.size + 1) (putN L at0 size n size) rfl rfl _ g3 rfl (by omega) _ rfl ?_)
  refine ret26e (p := 6) (u := 7) rfl rfl (w.heap.size + 1) rfl (putN L at0 size n size) (by omega) (setRow_heap _ _ _ _ _ _ g3) _ rfl ⟨rfl, ?_⟩
  have hW : Below w.heap.size w w' := (((Below.refl _ _).alloc (Nat.le_refl _) _).alloc (by simp) _).trans (hb1.mono (by simp; omega))
  exact below_setRow (hW.trans (hb2.mono hW.size)) (by omega) _

set_option maxHeartbeats 1000000 in
theorem with_over (L : List Int) (f : Int) (at0 size n : Nat) (w : World) (_hs : at0 + size ≤ 13) (_hs4 : size ≤ 4) (hn : n ≤ 4294967295) (hP : Places w)
    (hpl : ∀ W, Places W → Calls Tryz.prog 82 #[.int .i64 f] W fun e w' => e = .returned (.tuple #[.int .i64 (8 * (at0 : Int)), .int .i64 (8 * (size : Int)), .int .i64 0]) ∧ Below W.heap.size W w') (hb : 8 * (size : Int) < (Lib.bitLen n : Int)) :
    Calls Tryz.prog 83 #[.agg (hv L), .int .i64 f, .int .u32 n] w fun e w' => e = .returned (.tuple #[.agg (hv Z13), .int .i64 10]) ∧ Below w.heap.size w w' := by
  have hp := hP.pos
  have hn' : (n : Int) ≤ 4294967295 := by omega
  have HN : Hid ((n : Int) ≤ 4294967295) := hn'
  have HP : Hid (∀ W, Places W → Calls Tryz.prog 82 #[.int .i64 f] W fun e w' => e = .returned (.tuple #[.int .i64 (8 * (at0 : Int)), .int .i64 (8 * (size : Int)), .int .i64 0]) ∧ Below W.heap.size W w') := hpl
  clear hn hn' hpl
  go_enter Tryz.func83, Tryz.ntmps83
  go_wp2_with fail
  refine (HP.out _ (hP.later hp (((Below.refl _ _).alloc (Nat.le_refl _) _).alloc (by simp) _))).mono ?_
  clear HP
  rintro e w1 ⟨rfl, hb1⟩
  have g2 : w1.heap[w.heap.size + 1]? = some (.cells zero26 31 (0, 0)) := by
    rw [hb1.block _ (by simp)]; exact heap_new _ _ _ (by simp)
  clear hP
  go_wp2_with fail
  refine (Tryz.bits_Len32 _ _ (Int.natCast_nonneg n) HN.out).mono ?_
  rintro e w' ⟨rfl, rfl⟩
  go_wp2_with (refine wl_store26 rfl _ _ rfl (w.heap.size + 1) Z13 rfl rfl _ g2 rfl rfl _ rfl ?_)
  refine ret26e (p := 6) (u := 7) rfl rfl (w.heap.size + 1) rfl Z13 rfl (setRow_heap _ _ _ _ _ _ g2) _ rfl ⟨rfl, ?_⟩
  exact below_setRow ((((Below.refl _ _).alloc (Nat.le_refl _) _).alloc (by simp) _).trans (hb1.mono (by simp; omega))) (by omega) _

def atOf (f : Int) : Nat := (firstOf f / 8).toNat
def sizeOfF (f : Int) : Nat := (widthOf f / 8).toNat
theorem place_facts (f : Int) (h0 : 0 ≤ f) (h1 : f < 5) : firstOf f = 8 * (atOf f : Int) ∧ widthOf f = 8 * (sizeOfF f : Int) ∧ atOf f + sizeOfF f ≤ 13 ∧ sizeOfF f ≤ 4 ∧ 1 ≤ sizeOfF f := by
  rcases (show f = 0 ∨ f = 1 ∨ f = 2 ∨ f = 3 ∨ f = 4 by omega) with h | h | h | h | h <;> subst h <;> decide
theorem place_at (f : Int) (h0 : 0 ≤ f) (h1 : f < 5) : ∀ W, Places W → Calls Tryz.prog 82 #[.int .i64 f] W fun e w' => e = .returned (.tuple #[.int .i64 (8 * (atOf f : Int)), .int .i64 (8 * (sizeOfF f : Int)), .int .i64 0]) ∧ Below W.heap.size W w' := fun W hP => by
  have h := place_in f W h0 h1 hP
  rw [(place_facts f h0 h1).1, (place_facts f h0 h1).2.1] at h
  exact h

theorem with_ok (L : List Int) (hL : Byt L) (f v : Int) (w : World) (h0 : 0 ≤ f) (h1 : f < 5) (hv0 : 0 ≤ v) (hv1 : v < 4294967296) (hP : Places w) (hvw : v < 2 ^ (8 * sizeOfF f)) :
    Calls Tryz.prog 83 #[.agg (hv L), .int .i64 f, .int .u32 v] w fun e w' => e = .returned (.tuple #[.agg (hv (putN L (atOf f) (sizeOfF f) v (sizeOfF f))), .int .i64 0]) ∧ Below w.heap.size w w' := by
  obtain ⟨n, rfl⟩ := Int.eq_ofNat_of_zero_le hv0
  obtain ⟨_, _, a1, a2, _⟩ := place_facts f h0 h1
  have hb := (bitLen_le (8 * sizeOfF f) n (by omega)).2 (by exact_mod_cast hvw)
  exact with_core L hL f (atOf f) (sizeOfF f) n w a1 a2 (by omega) hP (place_at f h0 h1) (by omega)

theorem with_big (L : List Int) (f v : Int) (w : World) (h0 : 0 ≤ f) (h1 : f < 5) (hv0 : 0 ≤ v) (hv1 : v < 4294967296) (hP : Places w) (hvw : ¬ v < 2 ^ (8 * sizeOfF f)) :
    Calls Tryz.prog 83 #[.agg (hv L), .int .i64 f, .int .u32 v] w fun e w' => e = .returned (.tuple #[.agg (hv Z13), .int .i64 10]) ∧ Below w.heap.size w w' := by
  obtain ⟨n, rfl⟩ := Int.eq_ofNat_of_zero_le hv0
  obtain ⟨_, _, a1, a2, _⟩ := place_facts f h0 h1
  have hb : ¬ Lib.bitLen n ≤ 8 * sizeOfF f := fun h => hvw (by exact_mod_cast (bitLen_le (8 * sizeOfF f) n (by omega)).1 h)
  exact with_over L f (atOf f) (sizeOfF f) n w a1 a2 (by omega) hP (place_at f h0 h1) (by omega)
end Go.Proofs.YtnbklmmampdbfaaGreatDoor
namespace Go.Proofs.YtnbklmmampdbfaaGreatDoor
open Go Go.RowKit
set_option maxRecDepth 20000

/-- The header behind n rounds of the reference's With: from the last bit of the field on. -/
def withB (L : List Int) (F Wd v : Nat) : Nat → List Int
  | 0 => L
  | n + 1 => setB (withB L F Wd v n) ((F : Int) + ((Wd : Int) - 1 - (n : Int))) (((v / 2 ^ n : Nat) : Int) % 2 == 1)

theorem withB_bit (L : List Int) (hL : Byt L) (F Wd v : Nat) (hFW : F + Wd ≤ 104) : ∀ n, n ≤ Wd → Byt (withB L F Wd v n) ∧
    ∀ k : Nat, k < 104 → bitB (withB L F Wd v n) (k : Int) = if F + Wd - n ≤ k ∧ k < F + Wd then (v / 2 ^ (F + Wd - 1 - k) % 2 == 1) else bitB L (k : Int)
  | 0, _ => ⟨hL, fun k _ => by rw [if_neg (by omega)]; rfl⟩
  | n + 1, hn => by
    obtain ⟨h1, h2⟩ := withB_bit L hL F Wd v hFW n (by omega)
    obtain ⟨g1, g2⟩ := setB_bit (withB L F Wd v n) h1 ((F : Int) + ((Wd : Int) - 1 - (n : Int))) (((v / 2 ^ n : Nat) : Int) % 2 == 1) (by omega) (by omega)
    refine ⟨g1, fun k hk => ?_⟩
    show bitB (setB _ _ _) _ = _
    rw [g2 (k : Int) (by omega) (by omega)]
    by_cases e : (k : Int) = (F : Int) + ((Wd : Int) - 1 - (n : Int))
    · rw [if_pos e, if_pos (by omega), show F + Wd - 1 - k = n by omega, Bool.eq_iff_iff, beq_iff_eq, beq_iff_eq]
      omega
    · rw [if_neg e, h2 k hk]
      by_cases e2 : F + Wd - n ≤ k ∧ k < F + Wd
      · rw [if_pos e2, if_pos (by omega)]
      · rw [if_neg e2, if_neg (by omega)]

set_option maxHeartbeats 2000000 in
theorem refWith_core (L : List Int) (hL : Byt L) (f : Int) (F Wd v : Nat) (w : World) (hFW : F + Wd ≤ 104) (hWd : 1 ≤ Wd) (hv : v ≤ 4294967295)
    (c17 : ∀ W, Calls Tryz.prog 86 #[.int .i64 f] W fun e w' => e = .returned (.int .i64 (F : Int)) ∧ w' = W)
    (c18 : ∀ W, Calls Tryz.prog 87 #[.int .i64 f] W fun e w' => e = .returned (.int .i64 (Wd : Int)) ∧ w' = W) :
    Calls Tryz.prog 58 #[.agg (Go.Proofs.YtnbklmmampdbfaaGreatDoor.hv L), .int .i64 f, .int .u32 (v : Int)] w fun e w' => (v < 2 ^ Wd → e = .returned (.tuple #[.agg (Go.Proofs.YtnbklmmampdbfaaGreatDoor.hv (withB L F Wd v Wd)), .int .i64 0])) ∧ (¬ v < 2 ^ Wd → e = .returned (.tuple #[.agg (Go.Proofs.YtnbklmmampdbfaaGreatDoor.hv Z13), .int .i64 10])) ∧ Below w.heap.size w w' := by
  have K17 : Hid _ := c17
  have K18 : Hid _ := c18
  have HV : Hid (v ≤ 4294967295) := hv
  have hv1 : (v : Int) ≤ 4294967295 := by omega
  clear c17 c18 hv
  go_enter Tryz.func58, Tryz.ntmps58
  go_wp2_with (first
    | (go_at_call 86; refine (K17.out _).mono ?_; rintro e w' ⟨rfl, rfl⟩)
    | (go_at_call 87; refine (K18.out _).mono ?_; rintro e w' ⟨rfl, rfl⟩))
  go_loopw [2, 8] (fun x i wr => ∃ n : Nat, n ≤ Wd ∧ i = .int .i64 ((Wd : Int) - 1 - (n : Int)) ∧ x = .int .u32 ((v / 2 ^ n : Nat) : Int) ∧ wr.heap[w.heap.size]? = some (.cells (Go.Proofs.YtnbklmmampdbfaaGreatDoor.hv (withB L F Wd v n)) 31 (0, 0)) ∧ wr.heap[w.heap.size + 1]? = some (.cells zero26 31 (0, 0)) ∧ Below w.heap.size w wr) (fun _ i _ => (intOf i + 1).toNat)
  case atStart => exact ⟨0, Nat.zero_le _, by simp, by simp, heap_past _ _ _ _ (heap_new _ _ _ rfl), heap_new _ _ _ (by simp), ((Below.refl _ _).alloc (Nat.le_refl _) _).alloc (by simp) _⟩
  case round =>
    obtain ⟨n, hn, rfl, rfl, g1, g2, hbw⟩ := hrel
    have hml := (withB_bit L hL F Wd v hFW n hn).1
    have hz1 := (Array.getElem?_eq_some_iff.1 g1).1
    have hz2 := (Array.getElem?_eq_some_iff.1 g2).1
    have hvn : ((v / 2 ^ n : Nat) : Int) ≤ 4294967295 := by
      have := Nat.div_le_self v (2 ^ n)
      have := HV.out
      omega
    obtain ⟨x, hx⟩ : ∃ x : Nat, x = v / 2 ^ n := ⟨_, rfl⟩
    rw [← hx] at hvn ⊢
    have HX : Hid (x = v / 2 ^ n) := hx
    clear hx hv1
    by_cases hlt : n < Wd
    · have hi0 : 0 ≤ (Wd : Int) - 1 - (n : Int) := by omega
      go_wp2_with fail
      refine wp_region_tail 8 (by kernel_rfl) (by kernel_rfl) ?_
      simp only [List.take_succ_cons, List.take_zero, List.drop_succ_cons, List.drop_zero]
      refine q_load_row rfl 31 _ rfl w.heap.size rfl 31 _ (0, 0) _ (by rintro w' rfl; exact heap_drew g1) Tryz.underlying31 rfl (size26 _ hml.1) ?_
      simp only [Act.put, List.setIfInBounds_toArray, List.set_cons_succ, List.set_cons_zero]
      go_big_quiet_step (fail)
      go_big_quiet_want; go_big_quiet_op
      refine ⟨_, K17.out _, ?_⟩
      go_big_quiet_on
      repeat go_big_quiet_step (fail)
      refine wpQuiet_nil ?_
      go_wp2_with fail
      refine (refPut_any (withB L F Wd v n) hml _ _ _ (by omega) (by omega)).mono ?_
      rintro e w2 ⟨rfl, hb2⟩
      have k1 : w2.heap[w.heap.size]? = some (.cells (Go.Proofs.YtnbklmmampdbfaaGreatDoor.hv (withB L F Wd v n)) 31 (0, 0)) := by rw [hb2.block _ hz1]; exact g1
      have k2 : w2.heap[w.heap.size + 1]? = some (.cells zero26 31 (0, 0)) := by rw [hb2.block _ hz2]; exact g2
      have es : setB (withB L F Wd v n) ((F : Int) + ((Wd : Int) - 1 - (n : Int))) ((x : Int) % 2 == 1) = withB L F Wd v (n + 1) := by rw [HX.out]; rfl
      rw [es]
      clear es
      have hl2 := (withB_bit L hL F Wd v hFW (n + 1) (by omega)).1.1
      go_wp2_with (refine wl_store26 rfl _ _ rfl w.heap.size (withB L F Wd v (n + 1)) rfl rfl _ k1 (by rw [hv_size]; exact hml.1) hl2 _ rfl ?_)
      go_roundw
      case rel =>
        refine ⟨n + 1, by omega, by congr 1; omega, ?_, setRow_heap _ _ _ _ _ _ k1, ?_, below_setRow ((hbw.drew).trans (hb2.mono hbw.size)) (Nat.le_refl _) _⟩
        · congr 1
          rw [HX.out, Nat.pow_succ, ← Nat.div_div_eq_div_mul]; omega
        · rw [setRow_other _ _ _ _ (by omega)]; exact k2
      case measure => simp [intOf]; omega
    · obtain rfl : n = Wd := by omega
      have hneg : (n : Int) - 1 - (n : Int) < 0 := by omega
      have hx0 : v < 2 ^ n ↔ x = 0 := by
        have hp : 0 < 2 ^ n := Nat.pow_pos (by decide)
        rw [HX.out, Nat.div_eq_zero_iff]; omega
      have H0 : Hid (v < 2 ^ n ↔ x = 0) := hx0
      clear hx0
      by_cases hb : x = 0
      · have hb' : (x : Int) ≤ 0 := by omega
        have HB : Hid (x = 0) := hb
        clear hb
        go_wp2_with (first
          | (refine wl_load26 rfl _ rfl w.heap.size rfl (withB L F n v n) g1 hml.1 ?_)
          | (refine wl_store26 rfl _ _ rfl (w.heap.size + 1) (withB L F n v n) rfl rfl _ g2 rfl hml.1 _ rfl ?_))
        refine ret26e (p := 6) (u := 7) rfl rfl (w.heap.size + 1) rfl (withB L F n v n) hml.1 (setRow_heap _ _ _ _ _ _ g2) _ rfl ⟨fun _ => rfl, fun h => absurd (H0.out.2 HB.out) h, ?_⟩
        exact below_setRow hbw (by omega) _
      · have hb' : 0 < (x : Int) := by omega
        have HB : Hid (¬ x = 0) := hb
        clear hb
        go_wp2_with (refine wl_store26 rfl _ _ rfl (w.heap.size + 1) Z13 rfl rfl _ g2 rfl rfl _ rfl ?_)
        refine ret26e (p := 6) (u := 7) rfl rfl (w.heap.size + 1) rfl Z13 rfl (setRow_heap _ _ _ _ _ _ g2) _ rfl ⟨fun h => absurd (H0.out.1 h) HB.out, fun _ => rfl, ?_⟩
        exact below_setRow hbw (by omega) _
end Go.Proofs.YtnbklmmampdbfaaGreatDoor
namespace Go.Proofs.YtnbklmmampdbfaaGreatDoor
open Go Go.RowKit
set_option maxRecDepth 20000

theorem wl_zeroC {ops : Array Oper} {rest : List Oper} {o : Oper} {a : Act} {w : World} {Q : Exit → Act → World → Prop} (hg : o.guard = none) (ho : o.op = .build 37 #[])
    (h : wpList Tryz.prog ops Q rest (a.put o.dst (.agg (cv Z Z))) w) : wpList Tryz.prog ops Q (o :: rest) a w :=
  wpList_plain hg fun _ hK => by
    unfold Oper.wp execOp
    have e : ((#[] : Array (Nat × Operand)).map (fun (i, x) => (i, a.eval x))) = #[] := by simp
    have hb : (Instr.build 37 #[]).run Tryz.prog w = .ok (.agg (cv Z Z)) w := by
      rw [← zeroC_eq]; kernel_rfl
    simp only [ho, Sem.run_bind]
    rw [e, hb]
    exact hK _ _ h

end Go.Proofs.YtnbklmmampdbfaaGreatDoor
namespace Go.Proofs.YtnbklmmampdbfaaGreatDoor
open Go Go.RowKit
set_option maxRecDepth 20000

theorem clash_at (V M V' M' : List Int) (k : Nat) : (atI V M k + atI V' M' k == 1) = (bt M k && bt M' k && (bt V k != bt V' k)) := by
  unfold atI; cases bt M k <;> cases bt V k <;> cases bt M' k <;> cases bt V' k <;> rfl
theorem min_ne2 (V M V' M' : List Int) (k : Nat) : ((if atI V' M' k < atI V M k then atI V' M' k else atI V M k) != 2) = (bt M k || bt M' k) := by
  unfold atI; cases bt M k <;> cases bt V k <;> cases bt M' k <;> cases bt V' k <;> rfl
theorem min_eq1 (V M V' M' : List Int) (k : Nat) (h : (bt M k && bt M' k && (bt V k != bt V' k)) = false) : ((if atI V' M' k < atI V M k then atI V' M' k else atI V M k) == 1) = ((bt V k && bt M k) || (bt V' k && bt M' k)) := by
  revert h; unfold atI; cases bt M k <;> cases bt V k <;> cases bt M' k <;> cases bt V' k <;> decide

set_option maxHeartbeats 4000000 in
theorem rmeet_any (V M V' M' : List Int) (hV : Byt V) (hM : Byt M) (hV' : Byt V') (hM' : Byt M') (w : World) :
    Calls Tryz.prog 38 #[.agg (cv V M), .agg (cv V' M')] w fun e w' => e = .returned (meetR V M V' M') ∧ Below w.heap.size w w' := by
  have hVl := hV.1
  have hMl := hM.1
  have hVl' := hV'.1
  have hMl' := hM'.1
  have hzl := Z_byt.1
  obtain ⟨fV, hfV⟩ : ∃ f : Nat → Bool, f = fun i => (bt V i && bt M i) || (bt V' i && bt M' i) := ⟨_, rfl⟩
  obtain ⟨fM, hfM⟩ : ∃ f : Nat → Bool, f = fun i => bt M i || bt M' i := ⟨_, rfl⟩
  have CA : Hid (∀ k : Nat, k < 104 → ∀ W, Calls Tryz.prog 60 #[.agg (cv V M), .int .i64 (k : Int)] W fun e w' => e = .returned (.int .i64 (atI V M k)) ∧ Below W.heap.size W w') := fun k hk => at_any V M hV hM k hk
  have CB : Hid (∀ k : Nat, k < 104 → ∀ W, Calls Tryz.prog 60 #[.agg (cv V' M'), .int .i64 (k : Int)] W fun e w' => e = .returned (.int .i64 (atI V' M' k)) ∧ Below W.heap.size W w') := fun k hk => at_any V' M' hV' hM' k hk
  have CS : Hid (∀ k : Nat, k < 104 → (bt M k && bt M' k && (bt V k != bt V' k)) = false → ∀ m, m = (if atI V' M' k < atI V M k then atI V' M' k else atI V M k) → ∀ W, Calls Tryz.prog 61 #[.agg (cv (upto k fV) (upto k fM)), .int .i64 (k : Int), .int .i64 m] W fun e w' => e = .returned (.agg (cv (upto (k + 1) fV) (upto (k + 1) fM))) ∧ Below W.heap.size W w') := fun k hk hc m hm => by
    have := rset_any _ _ (upto_byt k fV) (upto_byt k fM) k hk m
    rwa [show (m != 2) = fM k by rw [hm, min_ne2, hfM], show (m == 1) = fV k by rw [hm, min_eq1 _ _ _ _ _ hc, hfV], upto_succ, upto_succ] at this
  have HE : Hid (upto 104 fV = meetV V M V' M' ∧ upto 104 fM = meetM M M') := by
    show _ ∧ _
    rw [upto_all, upto_all, hfV, hfM]; exact ⟨rfl, rfl⟩
  clear hV hM hV' hM' hfV hfM
  have lV : ∀ k, (upto k fV).length = 13 := fun k => (upto_byt k fV).1
  have lM : ∀ k, (upto k fM).length = 13 := fun k => (upto_byt k fM).1
  go_enter Tryz.func38, Tryz.ntmps38
  go_wp2_with (first
    | (refine wl_zeroC rfl rfl ?_)
    | (refine wl_storeC rfl _ _ rfl (w.heap.size + 3) Z Z rfl rfl _ (heap_new _ _ _ (by simp)) rfl hzl hzl _ (setRow_new _ _ _ _ _ (by simp)) ?_))
  go_loopw [7] (fun i wr => ∃ k : Nat, k ≤ 104 ∧ i = .int .i64 k ∧ (∀ j, j < k → (bt M j && bt M' j && (bt V j != bt V' j)) = false) ∧ wr.heap[w.heap.size]? = some (.cells (cv V M) 37 (0, 0)) ∧ wr.heap[w.heap.size + 1]? = some (.cells (cv V' M') 37 (0, 0)) ∧ wr.heap[w.heap.size + 2]? = some (.cells zeroC 37 (0, 0)) ∧ wr.heap[w.heap.size + 3]? = some (.cells (cv (upto k fV) (upto k fM)) 37 (0, 0)) ∧ Below w.heap.size w wr) (fun i _ => 104 - (intOf i).toNat)
  case atStart => exact ⟨0, Nat.zero_le _, rfl, fun j hj => by omega, heap_past _ _ _ _ (heap_past _ _ _ _ (heap_past _ _ _ _ (heap_new _ _ _ rfl))), heap_past _ _ _ _ (heap_past _ _ _ _ (heap_new _ _ _ (by simp))), heap_past _ _ _ _ (heap_new _ _ _ (by simp)), by rw [upto_zero, upto_zero]; exact heap_new _ _ _ (by simp), ((((Below.refl _ _).alloc (Nat.le_refl _) _).alloc (by simp) _).alloc (by simp; omega) _).alloc (by simp; omega) _⟩
  case round =>
    obtain ⟨k, hk, rfl, hno, g0, g1, g2, g3, hb⟩ := hrel
    have l1 := lV k
    have l2 := lM k
    have l3 := lV (k + 1)
    have l4 := lM (k + 1)
    have HNO : Hid (∀ j, j < k → (bt M j && bt M' j && (bt V j != bt V' j)) = false) := hno
    have hz := (Array.getElem?_eq_some_iff.1 g3).1
    clear hno
    by_cases hlt : k < 104
    · go_wp2_with (first
        | (refine wl_loadC rfl _ rfl w.heap.size rfl V M g0 hVl hMl ?_))
      refine (CA.out k hlt _).mono ?_
      rintro e w1 ⟨rfl, hb1⟩
      have k0 : w1.heap[w.heap.size]? = some (.cells (cv V M) 37 (0, 0)) := by rw [hb1.block _ (by omega)]; exact g0
      have k1 : w1.heap[w.heap.size + 1]? = some (.cells (cv V' M') 37 (0, 0)) := by rw [hb1.block _ (by omega)]; exact g1
      have k2 : w1.heap[w.heap.size + 2]? = some (.cells zeroC 37 (0, 0)) := by rw [hb1.block _ (by omega)]; exact g2
      have k3 : w1.heap[w.heap.size + 3]? = some (.cells (cv (upto k fV) (upto k fM)) 37 (0, 0)) := by rw [hb1.block _ (by omega)]; exact g3
      have B1 := hb.trans (hb1.mono hb.size)
      have hz1 := Nat.lt_of_lt_of_le hz hb1.size
      clear g0 g1 g2 g3 hb hb1 hz
      go_wp2_with (first
        | (refine wl_loadC rfl _ rfl (w.heap.size + 1) rfl V' M' k1 hVl' hMl' ?_))
      refine (CB.out k hlt _).mono ?_
      rintro e w2 ⟨rfl, hb2⟩
      have m0 : w2.heap[w.heap.size]? = some (.cells (cv V M) 37 (0, 0)) := by rw [hb2.block _ (by omega)]; exact k0
      have m1 : w2.heap[w.heap.size + 1]? = some (.cells (cv V' M') 37 (0, 0)) := by rw [hb2.block _ (by omega)]; exact k1
      have m2 : w2.heap[w.heap.size + 2]? = some (.cells zeroC 37 (0, 0)) := by rw [hb2.block _ (by omega)]; exact k2
      have m3 : w2.heap[w.heap.size + 3]? = some (.cells (cv (upto k fV) (upto k fM)) 37 (0, 0)) := by rw [hb2.block _ (by omega)]; exact k3
      have B2 := B1.trans (hb2.mono B1.size)
      have hz2 := Nat.lt_of_lt_of_le hz1 hb2.size
      clear k0 k1 k2 k3 B1 hb2 hz1
      obtain ⟨x, hx⟩ : ∃ x, x = atI V M k := ⟨_, rfl⟩
      obtain ⟨y, hy⟩ : ∃ y, y = atI V' M' k := ⟨_, rfl⟩
      have hxb : 0 ≤ x ∧ x ≤ 2 := by rw [hx]; rcases at_cases V M k with h | h | h <;> rw [h] <;> decide
      have hyb : 0 ≤ y ∧ y ≤ 2 := by rw [hy]; rcases at_cases V' M' k with h | h | h <;> rw [h] <;> decide
      have hcl := clash_at V M V' M' k
      rw [← hx, ← hy] at hcl ⊢
      obtain ⟨hx0, hx2⟩ := hxb
      obtain ⟨hy0, hy2⟩ := hyb
      have HX : Hid (x = atI V M k) := hx
      have HY : Hid (y = atI V' M' k) := hy
      clear hx hy
      by_cases hc : (bt M k && bt M' k && (bt V k != bt V' k)) = true
      · have hxy : (x + y == 1) = true := by rw [hcl, hc]
        have HC : Hid ((bt M k && bt M' k && (bt V k != bt V' k)) = true) := hc
        clear hcl hc
        go_wp2_with (first
          | (refine wl_zeroC rfl rfl ?_)
          | (refine wl_storeC rfl _ _ rfl (w.heap.size + 2) Z Z rfl rfl _ m2 rfl hzl hzl _ rfl ?_))
        refine retCe (p := 4) (u := 5) rfl rfl (w.heap.size + 2) rfl Z Z hzl hzl (setRow_heap _ _ _ _ _ _ m2) _ rfl ⟨?_, below_setRow B2 (by omega) _⟩
        have hme : meets V M V' M' = false := by
          cases e : meets V M V' M'
          · rfl
          · have h3 := HC.out
            simp only [Bool.and_eq_true] at h3
            rw [(meets_iff V M V' M').1 e k hlt h3.1.1 h3.1.2] at h3
            simp at h3
        rw [meetR_no _ _ _ _ hme]; rfl
      · have hc' : (bt M k && bt M' k && (bt V k != bt V' k)) = false := by simpa using hc
        have hxy : (x + y == 1) = false := by rw [hcl, hc']
        have HC : Hid ((bt M k && bt M' k && (bt V k != bt V' k)) = false) := hc'
        clear hcl hc hc'
        by_cases hmin : y < x
        · have D : Hid (∀ W, Calls Tryz.prog 61 #[.agg (cv (upto k fV) (upto k fM)), .int .i64 (k : Int), .int .i64 y] W fun e w' => e = .returned (.agg (cv (upto (k + 1) fV) (upto (k + 1) fM))) ∧ Below W.heap.size W w') := CS.out k hlt HC.out y (by rw [← HX.out, ← HY.out, if_pos hmin])
          have hmin2 : ¬ x ≤ y := by omega
          go_wp2_with (first
            | (refine wl_loadC rfl _ rfl (w.heap.size + 3) rfl (upto k fV) (upto k fM) m3 l1 l2 ?_))
          refine (D.out _).mono ?_
          rintro e w3 ⟨rfl, hb3⟩
          have p0 : w3.heap[w.heap.size]? = some (.cells (cv V M) 37 (0, 0)) := by rw [hb3.block _ (by omega)]; exact m0
          have p1 : w3.heap[w.heap.size + 1]? = some (.cells (cv V' M') 37 (0, 0)) := by rw [hb3.block _ (by omega)]; exact m1
          have p2 : w3.heap[w.heap.size + 2]? = some (.cells zeroC 37 (0, 0)) := by rw [hb3.block _ (by omega)]; exact m2
          have p3 : w3.heap[w.heap.size + 3]? = some (.cells (cv (upto k fV) (upto k fM)) 37 (0, 0)) := by rw [hb3.block _ (by omega)]; exact m3
          have B3 := B2.trans (hb3.mono B2.size)
          clear m0 m1 m2 m3 B2 hb3 hz2 D
          go_wp2_with (first
            | (refine wl_storeC rfl _ _ rfl (w.heap.size + 3) (upto (k + 1) fV) (upto (k + 1) fM) rfl rfl _ p3 (cv_size _ _ l1 l2) l3 l4 _ rfl ?_))
          go_roundw
          case rel =>
            refine ⟨k + 1, by omega, by go_num, fun j hj => ?_, (setRow_other _ _ _ _ (by omega)).trans p0, (setRow_other _ _ _ _ (by omega)).trans p1, (setRow_other _ _ _ _ (by omega)).trans p2, setRow_heap _ _ _ _ _ _ p3, below_setRow B3 (by omega) _⟩
            by_cases e : j = k
            · subst e; exact HC.out
            · exact HNO.out j (by omega)
          case measure => simp [intOf]; omega
        · have D : Hid (∀ W, Calls Tryz.prog 61 #[.agg (cv (upto k fV) (upto k fM)), .int .i64 (k : Int), .int .i64 x] W fun e w' => e = .returned (.agg (cv (upto (k + 1) fV) (upto (k + 1) fM))) ∧ Below W.heap.size W w') := CS.out k hlt HC.out x (by rw [← HX.out, ← HY.out, if_neg hmin])
          have hmin2 : x ≤ y := by omega
          go_wp2_with (first
            | (refine wl_loadC rfl _ rfl (w.heap.size + 3) rfl (upto k fV) (upto k fM) m3 l1 l2 ?_))
          refine (D.out _).mono ?_
          rintro e w3 ⟨rfl, hb3⟩
          have p0 : w3.heap[w.heap.size]? = some (.cells (cv V M) 37 (0, 0)) := by rw [hb3.block _ (by omega)]; exact m0
          have p1 : w3.heap[w.heap.size + 1]? = some (.cells (cv V' M') 37 (0, 0)) := by rw [hb3.block _ (by omega)]; exact m1
          have p2 : w3.heap[w.heap.size + 2]? = some (.cells zeroC 37 (0, 0)) := by rw [hb3.block _ (by omega)]; exact m2
          have p3 : w3.heap[w.heap.size + 3]? = some (.cells (cv (upto k fV) (upto k fM)) 37 (0, 0)) := by rw [hb3.block _ (by omega)]; exact m3
          have B3 := B2.trans (hb3.mono B2.size)
          clear m0 m1 m2 m3 B2 hb3 hz2 D
          go_wp2_with (first
            | (refine wl_storeC rfl _ _ rfl (w.heap.size + 3) (upto (k + 1) fV) (upto (k + 1) fM) rfl rfl _ p3 (cv_size _ _ l1 l2) l3 l4 _ rfl ?_))
          go_roundw
          case rel =>
            refine ⟨k + 1, by omega, by go_num, fun j hj => ?_, (setRow_other _ _ _ _ (by omega)).trans p0, (setRow_other _ _ _ _ (by omega)).trans p1, (setRow_other _ _ _ _ (by omega)).trans p2, setRow_heap _ _ _ _ _ _ p3, below_setRow B3 (by omega) _⟩
            by_cases e : j = k
            · subst e; exact HC.out
            · exact HNO.out j (by omega)
          case measure => simp [intOf]; omega
    · obtain rfl : k = 104 := by omega
      rw [HE.out.1, HE.out.2] at g3
      have hAl := (meetV_byt V M V' M').1
      have hBl := (meetM_byt M M').1
      have hme : meets V M V' M' = true := (meets_iff _ _ _ _).2 fun i hi h1 h2 => by
        have := HNO.out i hi
        rw [h1, h2] at this
        simpa using this
      go_wp2_with (first
        | (refine wl_loadC rfl _ rfl (w.heap.size + 3) rfl (meetV V M V' M') (meetM M M') g3 hAl hBl ?_)
        | (refine wl_storeC rfl _ _ rfl (w.heap.size + 2) (meetV V M V' M') (meetM M M') rfl rfl _ g2 rfl hAl hBl _ rfl ?_))
      refine retCe (p := 4) (u := 5) rfl rfl (w.heap.size + 2) rfl _ _ hAl hBl (setRow_heap _ _ _ _ _ _ g2) _ rfl ⟨?_, below_setRow hb (by omega) _⟩
      rw [meetR_yes _ _ _ _ hme]; rfl
end Go.Proofs.YtnbklmmampdbfaaGreatDoor
namespace Go.Proofs.YtnbklmmampdbfaaGreatDoor
open Go Go.RowKit
set_option maxRecDepth 20000

/-- The pieces as the chapter lays them. -/
def rGo (M V' M' : List Int) : Nat → Nat → List Int → List Int → List (List Int × List Int)
  | 0, _, _, _ => []
  | f + 1, i, RV, RM => if bt M i = false ∧ bt M' i = true then (setb RV i (!(bt V' i)), setb RM i true) :: rGo M V' M' f (i + 1) (setb RV i (bt V' i)) (setb RM i true) else rGo M V' M' f (i + 1) RV RM
theorem rGo_cut (M V' M' : List Int) (f i : Nat) (RV RM : List Int) (h : bt M i = false) (h2 : bt M' i = true) : rGo M V' M' (f + 1) i RV RM = (setb RV i (!(bt V' i)), setb RM i true) :: rGo M V' M' f (i + 1) (setb RV i (bt V' i)) (setb RM i true) := by
  rw [rGo, if_pos ⟨h, h2⟩]
theorem rGo_pass (M V' M' : List Int) (f i : Nat) (RV RM : List Int) (h : ¬ (bt M i = false ∧ bt M' i = true)) : rGo M V' M' (f + 1) i RV RM = rGo M V' M' f (i + 1) RV RM := by
  rw [rGo, if_neg h]
theorem rGo_nil (M V' M' : List Int) : ∀ (f i : Nat) (RV RM : List Int), i + f ≤ 104 → (∀ j, i ≤ j → j < 104 → ¬ (bt M j = false ∧ bt M' j = true)) → rGo M V' M' f i RV RM = []
  | 0, _, _, _, _, _ => rfl
  | f + 1, i, RV, RM, h, hj => by
    rw [rGo_pass M V' M' f i RV RM (hj i (Nat.le_refl _) (by omega))]
    exact rGo_nil M V' M' f (i + 1) RV RM (by omega) fun j h1 h2 => hj j (by omega) h2

theorem bt_setb (L : List Int) (i : Nat) (b : Bool) (k : Nat) (hk : k < 104) : bt (setb L i b) k = if k = i then b else bt L k := setb_bt L i b k hk

theorem mGo_rGo (V M V' M' : List Int) : ∀ (f i : Nat) (RV RM : List Int), i + f = 104 → (∀ j, i ≤ j → j < 104 → bt RM j = bt M j) → can RV RM = RV →
    mGo (meetV V M V' M') (meetM M M') f i RV RM = rGo M V' M' f i RV RM
  | 0, _, _, _, _, _, _ => rfl
  | f + 1, i, RV, RM, hf, hj, hc => by
    have hi : i < 104 := by omega
    have eM : ∀ j, j < 104 → bt (meetM M M') j = (bt M j || bt M' j) := fun j h => mk_bt _ j h
    have eV : bt (meetV V M V' M') i = ((bt V i && bt M i) || (bt V' i && bt M' i)) := mk_bt _ i hi
    by_cases hst : (RV == meetV V M V' M' && RM == meetM M M') = true
    · rw [mGo_stop _ _ _ _ _ _ hst]
      symm
      refine rGo_nil M V' M' (f + 1) i RV RM (by omega) fun j h1 h2 => ?_
      rw [Bool.and_eq_true, beq_iff_eq, beq_iff_eq] at hst
      have h3 := hj j h1 h2
      rw [hst.2, eM j h2] at h3
      rintro ⟨h4, h5⟩
      rw [h4, h5] at h3
      cases h3
    · have hst' : (RV == meetV V M V' M' && RM == meetM M M') = false := by simpa using hst
      have h3 := hj i (Nat.le_refl _) hi
      by_cases hcut : bt M i = false ∧ bt M' i = true
      · obtain ⟨h4, h5⟩ := hcut
        rw [mGo_cut _ _ _ _ _ _ hst' (by rw [h3]; exact h4) (by rw [eM i hi, h5]; simp), rGo_cut M V' M' f i RV RM h4 h5]
        rw [h4, h5] at eV
        simp only [Bool.and_false, Bool.and_true, Bool.false_or] at eV
        rw [eV]
        unfold fixV fixM
        rw [hc]
        congr 1
        refine mGo_rGo V M V' M' f (i + 1) _ _ (by omega) (fun j h6 h7 => ?_) ?_
        · rw [bt_setb _ _ _ _ h7, if_neg (by omega)]; exact hj j (by omega) h7
        · refine bt_ext _ _ (can_byt _ _) (setb_byt _ _ _) fun k hk => ?_
          rw [can_bt _ _ k hk, bt_setb _ _ _ _ hk, bt_setb _ _ _ _ hk]
          by_cases e : k = i
          · rw [if_pos e, if_pos e, Bool.and_true]
          · rw [if_neg e, if_neg e, ← can_bt _ _ k hk, hc]
      · rw [rGo_pass M V' M' f i RV RM hcut, mGo_pass _ _ _ _ _ _ hst' (by
          rw [h3, eM i hi]
          revert hcut
          cases bt M i <;> cases bt M' i <;> simp)]
        exact mGo_rGo V M V' M' f (i + 1) RV RM (by omega) (fun j h1 h2 => hj j (by omega) h2) hc

/-- How many of a list's cubes have a header. -/
def cnt (H : List Int) : List (List Int × List Int) → Nat
  | [] => 0
  | c :: C => (if has c.1 c.2 H = true then 1 else 0) + cnt H C
theorem cnt_append (H : List Int) : ∀ (C D : List (List Int × List Int)), cnt H (C ++ D) = cnt H C + cnt H D
  | [], D => by simp [cnt]
  | c :: C, D => by rw [List.cons_append, cnt, cnt, cnt_append H C D]; omega
theorem cnt_le (H : List Int) : ∀ C : List (List Int × List Int), cnt H C ≤ C.length
  | [] => Nat.le_refl _
  | c :: C => by have := cnt_le H C; rw [cnt, List.length_cons]; split <;> omega

theorem has_setb (RV RM H : List Int) (i : Nat) (b : Bool) (hi : i < 104) (hf : bt RM i = false) : has (setb RV i b) (setb RM i true) H = (has RV RM H && (bt H i == b)) := by
  rw [Bool.eq_iff_iff, Bool.and_eq_true, has_iff, has_iff, beq_iff_eq]
  constructor
  · intro g
    constructor
    · intro k hk hm
      have hki : k ≠ i := by rintro rfl; rw [hf] at hm; cases hm
      have := g k hk (by rw [bt_setb _ _ _ _ hk, if_neg hki]; exact hm)
      rwa [bt_setb _ _ _ _ hk, if_neg hki] at this
    · have := g i hi (by rw [bt_setb _ _ _ _ hi, if_pos rfl])
      rw [bt_setb _ _ _ _ hi, if_pos rfl] at this
      exact this.symm
  · rintro ⟨g1, g2⟩ k hk hm
    rw [bt_setb _ _ _ _ hk]
    rw [bt_setb _ _ _ _ hk] at hm
    by_cases h : k = i
    · rw [if_pos h, h, g2]
    · rw [if_neg h] at hm ⊢
      exact g1 k hk hm

/-- Is there a bit, from a place on, that is free in the first cube, fixed in the second one, and another one in the header? -/
def far (M V' M' H : List Int) : Nat → Nat → Bool
  | 0, _ => false
  | f + 1, i => (!(bt M i) && bt M' i && (bt H i != bt V' i)) || far M V' M' H f (i + 1)
theorem far_iff (M V' M' H : List Int) : ∀ f i, far M V' M' H f i = true ↔ ∃ j, i ≤ j ∧ j < i + f ∧ bt M j = false ∧ bt M' j = true ∧ bt H j ≠ bt V' j
  | 0, i => by
    simp only [far, Bool.false_eq_true, false_iff]
    rintro ⟨j, h1, h2, _⟩; omega
  | f + 1, i => by
    rw [far, Bool.or_eq_true, far_iff M V' M' H f (i + 1)]
    constructor
    · rintro (h | ⟨j, h1, h2, h3⟩)
      · refine ⟨i, Nat.le_refl _, by omega, ?_⟩
        revert h
        cases bt M i <;> cases bt M' i <;> simp
      · exact ⟨j, by omega, by omega, h3⟩
    · rintro ⟨j, h1, h2, h3, h4, h5⟩
      by_cases e : j = i
      · subst e; left; rw [h3, h4]; simpa using h5
      · right; exact ⟨j, by omega, by omega, h3, h4, h5⟩

theorem cnt_rGo (M V' M' H : List Int) : ∀ (f i : Nat) (RV RM : List Int), i + f = 104 → (∀ j, i ≤ j → j < 104 → bt RM j = bt M j) →
    cnt H (rGo M V' M' f i RV RM) = if (has RV RM H && far M V' M' H f i) = true then 1 else 0
  | 0, _, _, _, _, _ => by simp [rGo, cnt, far]
  | f + 1, i, RV, RM, hf, hj => by
    have hi : i < 104 := by omega
    have h3 := hj i (Nat.le_refl _) hi
    by_cases hcut : bt M i = false ∧ bt M' i = true
    · obtain ⟨h4, h5⟩ := hcut
      have hj' : ∀ j, i + 1 ≤ j → j < 104 → bt (setb RM i true) j = bt M j := fun j h6 h7 => by
        rw [bt_setb _ _ _ _ h7, if_neg (by omega)]; exact hj j (by omega) h7
      rw [rGo_cut M V' M' f i RV RM h4 h5, cnt, cnt_rGo M V' M' H f (i + 1) _ _ (by omega) hj', has_setb _ _ _ _ _ hi (by rw [h3]; exact h4), has_setb _ _ _ _ _ hi (by rw [h3]; exact h4), far, h4, h5]
      cases has RV RM H <;> cases bt H i <;> cases bt V' i <;> cases far M V' M' H f (i + 1) <;> rfl
    · rw [rGo_pass M V' M' f i RV RM hcut, cnt_rGo M V' M' H f (i + 1) RV RM (by omega) fun j h1 h2 => hj j (by omega) h2, far]
      rw [show (!(bt M i) && bt M' i && (bt H i != bt V' i)) = false by
        revert hcut
        cases bt M i <;> cases bt M' i <;> simp, Bool.false_or]

theorem minus_rGo (V M V' M' : List Int) (h : meets V M V' M' = true) : minusC V M V' M' = rGo M V' M' 104 0 (can V M) M := by
  rw [minusC_yes _ _ _ _ h]
  refine mGo_rGo V M V' M' 104 0 _ _ rfl (fun _ _ _ => rfl) ?_
  refine bt_ext _ _ (can_byt _ _) (can_byt _ _) fun i hi => ?_
  rw [can_bt _ _ i hi, can_bt _ _ i hi]; cases bt V i <;> cases bt M i <;> rfl

theorem has_can' (V M H : List Int) : has (can V M) M H = has V M H := by
  rw [Bool.eq_iff_iff, has_iff, has_iff]
  constructor
  · intro h i hi hm
    have := h i hi hm
    rwa [can_bt _ _ i hi, hm, Bool.and_true] at this
  · intro h i hi hm
    rw [can_bt _ _ i hi, hm, Bool.and_true]; exact h i hi hm

theorem cnt_minus (V M V' M' H : List Int) : cnt H (minusC V M V' M') = if (has V M H && !(has V' M' H)) = true then 1 else 0 := by
  cases hm : meets V M V' M'
  · rw [minusC_no _ _ _ _ hm, cnt, cnt, has_can', Nat.add_zero]
    cases hx : has V M H
    · rfl
    · cases hy : has V' M' H
      · rfl
      · rw [has_iff] at hx hy
        have : meets V M V' M' = true := (meets_iff _ _ _ _).2 fun i hi h1 h2 => by rw [hx i hi h1, hy i hi h2]
        rw [hm] at this; cases this
  · rw [minus_rGo _ _ _ _ hm, cnt_rGo M V' M' H 104 0 _ _ rfl (fun _ _ _ => rfl), has_can']
    cases hx : has V M H
    · rfl
    · rw [Bool.true_and, Bool.true_and]
      have e : far M V' M' H 104 0 = !(has V' M' H) := by
        rw [Bool.eq_iff_iff, far_iff, Bool.not_eq_true']
        rw [has_iff] at hx
        rw [meets_iff] at hm
        constructor
        · rintro ⟨j, _, h2, h3, h4, h5⟩
          cases hy : has V' M' H
          · rfl
          · rw [has_iff] at hy
            exact absurd (hy j (by omega) h4).symm h5
        · intro hy
          refine Classical.byContradiction fun hn => ?_
          have : has V' M' H = true := (has_iff _ _ _).2 fun i hi h1 => by
            cases h2 : bt M i
            · refine Classical.byContradiction fun h3 => hn ⟨i, Nat.zero_le _, by omega, h2, h1, fun h4 => h3 h4.symm⟩
            · rw [← hm i hi h2 h1]; exact hx i hi h2
          rw [hy] at this; cases this
      rw [e]
end Go.Proofs.YtnbklmmampdbfaaGreatDoor
namespace Go.Proofs.YtnbklmmampdbfaaGreatDoor
open Go Go.RowKit
set_option maxRecDepth 20000

theorem own_setRow_ne {w : World} {B : Nat} {e : TypeId} {s : Nat} {v : Value} {n : Nat} {xs : List Value} (h : w.ownsRow B e s v n xs) (g : Nat) (hg : v.ownBlock ≠ some g) (cs : Array Value) : (w.setRow g cs).ownsRow B e s v n xs := by
  obtain ⟨h1, h2 | ⟨g', cap, cur, rfl, hB, hcur, h3⟩⟩ := h
  · exact ⟨h1, .inl h2⟩
  · exact ⟨h1, .inr ⟨g', cap, cur, rfl, hB, (setRow_other _ _ _ _ (fun e => hg (by rw [e]; rfl))).trans hcur, h3⟩⟩

end Go.Proofs.YtnbklmmampdbfaaGreatDoor
namespace Go.Proofs.YtnbklmmampdbfaaGreatDoor
open Go Go.RowKit
set_option maxRecDepth 20000

/-- All cubes of a list have their bytes. -/
def Byts (C : List (List Int × List Int)) : Prop := ∀ c ∈ C, Byt c.1 ∧ Byt c.2
theorem byts_rGo (M V' M' : List Int) : ∀ (f i : Nat) (RV RM : List Int), Byts (rGo M V' M' f i RV RM)
  | 0, _, _, _ => fun c hc => by simp [rGo] at hc
  | f + 1, i, RV, RM => by
    rw [rGo]
    split
    · intro c hc
      rcases List.mem_cons.1 hc with h | h
      · rw [h]; exact ⟨setb_byt _ _ _, setb_byt _ _ _⟩
      · exact byts_rGo M V' M' f (i + 1) _ _ c h
    · exact byts_rGo M V' M' f (i + 1) _ _
theorem byts_minus (V M V' M' : List Int) (hM : Byt M) : Byts (minusC V M V' M') := by
  cases h : meets V M V' M'
  · rw [minusC_no _ _ _ _ h]
    intro c hc
    have : c = (can V M, M) := by simpa using hc
    rw [this]; exact ⟨can_byt _ _, hM⟩
  · rw [minus_rGo _ _ _ _ h]; exact byts_rGo _ _ _ _ _ _ _
theorem len_rGo (M V' M' : List Int) : ∀ (f i : Nat) (RV RM : List Int), (rGo M V' M' f i RV RM).length ≤ f
  | 0, _, _, _ => by simp [rGo]
  | f + 1, i, RV, RM => by
    rw [rGo]
    split
    · rw [List.length_cons]; exact Nat.succ_le_succ (len_rGo M V' M' f (i + 1) _ _)
    · exact Nat.le_succ_of_le (len_rGo M V' M' f (i + 1) _ _)
theorem len_minus (V M V' M' : List Int) : (minusC V M V' M').length ≤ 104 := by
  cases h : meets V M V' M'
  · rw [minusC_no _ _ _ _ h]; simp
  · rw [minus_rGo _ _ _ _ h]; exact len_rGo _ _ _ _ _ _ _

theorem ccells_at : ∀ (C : List (List Int × List Int)), Byts C → ∀ (i : Nat) (hi : i < C.length) (j : Nat), j < 26 → (ccells C)[26 * i + j]? = (cv C[i].1 C[i].2)[j]?
  | [], _, i, hi, _, _ => by simp at hi
  | c :: C, hC, i, hi, j, hj => by
    have h1 := hC c (by simp)
    have hl : (cv c.1 c.2).toList.length = 26 := by rw [Array.length_toList, cv_size _ _ h1.1.1 h1.2.1]
    have e : ccells (c :: C) = (cv c.1 c.2).toList ++ ccells C := by simp [ccells]
    rw [e]
    match i, hi with
    | 0, _ =>
      rw [List.getElem?_append_left (by omega)]
      simp
    | i + 1, hi =>
      rw [List.getElem?_append_right (by omega), hl, show 26 * (i + 1) + j - 26 = 26 * i + j by omega, ccells_at C (fun c hc => hC c (by simp [hc])) i (by simpa using hi) j hj]
      rfl

/-- A slice whose elements are these cubes. -/
def Row (w : World) (v : Value) (C : List (List Int × List Int)) : Prop :=
  ∃ (o : Option Addr) (cap : Nat), v = .slice o C.length cap ∧ ∀ (i : Nat) (hi : i < C.length), ∃ g cur, o = some ⟨g, 0, none⟩ ∧ w.heap[g]? = some (.cells cur 37 (0, 0)) ∧ ∀ j, j < 26 → cur[26 * i + j]? = (cv C[i].1 C[i].2)[j]?
theorem row_of {w : World} {B : Nat} {v : Value} {C : List (List Int × List Int)} (h : w.ownsRow B 37 26 v C.length (ccells C)) (hC : Byts C) : Row w v C := by
  obtain ⟨h1, ⟨rfl, h2⟩ | ⟨g, cap, cur, rfl, hB, hcur, _, _, _, h4⟩⟩ := h
  · exact ⟨none, 0, by rw [h2], fun i hi => by omega⟩
  · refine ⟨_, cap, rfl, fun i hi => ⟨g, cur, rfl, hcur, fun j hj => ?_⟩⟩
    rw [← ccells_at C hC i hi j hj, ← h4, List.getElem?_take_of_lt (by omega)]
    simp
theorem Row.below {w w' : World} {v : Value} {C : List (List Int × List Int)} (h : Row w v C) (hb : Below w.heap.size w w') : Row w' v C := by
  obtain ⟨o, cap, rfl, h2⟩ := h
  refine ⟨o, cap, rfl, fun i hi => ?_⟩
  obtain ⟨g, cur, h3, h4, h5⟩ := h2 i hi
  exact ⟨g, cur, h3, (hb.block g (Array.getElem?_eq_some_iff.1 h4).1).trans h4, h5⟩

theorem qlCat {W : World} {ops : Array Oper} {Q : Act → Prop} {rest : List Oper} {o : Oper} {a : Act} (hw : Region.wanted o (yielded ops a.tmps) = true) (x : Operand) (ho : o.op = .load 37 x)
    (g off : Nat) (hx : a.eval x = .pointer (some ⟨g, off, none⟩)) (cs : Array Value) (t : TypeId) (V M : List Int) (hV : V.length = 13) (hM : M.length = 13) (hg : W.heap[g]? = some (.cells cs t (0, 0))) (hc : ∀ j, j < 26 → cs[off + j]? = (cv V M)[j]?)
    (h : wpQuiet Tryz.prog ops (fun w' => ∃ u : Later W, w' = u.world) Q rest (a.put o.dst (.agg (cv V M)))) : wpQuiet Tryz.prog ops (fun w' => ∃ u : Later W, w' = u.world) Q (o :: rest) a := by
  refine BigFrame.wpQuiet_want hw fun K hK => ⟨.agg (cv V M), fun w hC => ?_, hK _ h⟩
  unfold Oper.quietAt execOp
  simp only [ho, hx, Instr.loadAt, Instr.sureAddr, Sem.run_bind, Sem.run_pure, Result.andThen_ok, load_cube w g off cs t (0, 0) V M hV hM (later_block hg w hC) hc]
  exact ⟨rfl, rfl⟩

end Go.Proofs.YtnbklmmampdbfaaGreatDoor
namespace Go.Proofs.YtnbklmmampdbfaaGreatDoor
open Go Go.RowKit
set_option maxRecDepth 20000

/-- Has one of these cubes a header? -/
def hasL (C : List (List Int × List Int)) (H : List Int) : Bool := C.any fun c => has c.1 c.2 H

/-- A slice, wherever it lies, whose elements are these cubes. -/
def Sl (w : World) (v : Value) (C : List (List Int × List Int)) : Prop :=
  Byts C ∧ ∃ (o : Option Addr) (cap : Nat), v = .slice o C.length cap ∧ C.length ≤ cap ∧ cap ≤ maxLen ∧ ∀ (i : Nat) (hi : i < C.length), ∃ g off cur t fr, o = some ⟨g, off, none⟩ ∧ w.heap[g]? = some (.cells cur t fr) ∧ ∀ j, j < 26 → cur[off + i * 26 + j]? = (cv C[i].1 C[i].2)[j]?

theorem Sl.byts {w : World} {v : Value} {C : List (List Int × List Int)} (h : Sl w v C) : Byts C := h.1
theorem Sl.below {w w' : World} {v : Value} {C : List (List Int × List Int)} (h : Sl w v C) (hb : Below w.heap.size w w') : Sl w' v C := by
  obtain ⟨h0, o, cap, rfl, h1, h2, h3⟩ := h
  refine ⟨h0, o, cap, rfl, h1, h2, fun i hi => ?_⟩
  obtain ⟨g, off, cur, t, fr, h4, h5, h6⟩ := h3 i hi
  exact ⟨g, off, cur, t, fr, h4, (hb.block g (Array.getElem?_eq_some_iff.1 h5).1).trans h5, h6⟩
/-- The same, but that blocks from a place on may have turned. -/
theorem Sl.belowAt {w w' : World} {v : Value} {C : List (List Int × List Int)} {B : Nat} (h : Sl w v C) (hw : w.heap.size ≤ B) (hb : Below B w w') : Sl w' v C := h.below (hb.mono hw)
theorem Sl.slice {w : World} {v : Value} {C : List (List Int × List Int)} (h : Sl w v C) : ∃ (o : Option Addr) (cap : Nat), v = .slice o C.length cap ∧ C.length ≤ cap ∧ cap ≤ maxLen := by
  obtain ⟨_, o, cap, h1, h2, h3, _⟩ := h
  exact ⟨o, cap, h1, h2, h3⟩
/-- One element. -/
theorem Sl.at {w : World} {o : Option Addr} {n cap : Nat} {C : List (List Int × List Int)} (h : Sl w (.slice o n cap) C) (k : Nat) (hk : k < n) :
    ∃ g off cur t fr U N, o = some ⟨g, off, none⟩ ∧ w.heap[g]? = some (.cells cur t fr) ∧ (∀ j, j < 26 → cur[off + k * 26 + j]? = (cv U N)[j]?) ∧ C[k]? = some (U, N) ∧ Byt U ∧ Byt N := by
  obtain ⟨h0, o', cap', h1, _, _, h3⟩ := h
  simp only [Value.slice.injEq] at h1
  obtain ⟨rfl, rfl, rfl⟩ := h1
  obtain ⟨g, off, cur, t, fr, h4, h5, h6⟩ := h3 k hk
  exact ⟨g, off, cur, t, fr, C[k].1, C[k].2, h4, h5, h6, List.getElem?_eq_getElem hk, (h0 _ (List.getElem_mem _)).1, (h0 _ (List.getElem_mem _)).2⟩
theorem Sl.len {w : World} {o : Option Addr} {n cap : Nat} {C : List (List Int × List Int)} (h : Sl w (.slice o n cap) C) : n = C.length ∧ n ≤ cap ∧ cap ≤ maxLen := by
  obtain ⟨h0, o', cap', h1, h2, h3, _⟩ := h
  simp only [Value.slice.injEq] at h1
  obtain ⟨rfl, rfl, rfl⟩ := h1
  exact ⟨rfl, h2, h3⟩
/-- The first ones of a slice. -/
theorem Sl.take {w : World} {o : Option Addr} {n cap : Nat} {C : List (List Int × List Int)} (h : Sl w (.slice o n cap) C) (k : Nat) (hk : k ≤ n) : Sl w (.slice o k cap) (C.take k) := by
  obtain ⟨h0, o', cap', h1, h2, h3, h4⟩ := h
  simp only [Value.slice.injEq] at h1
  obtain ⟨rfl, rfl, rfl⟩ := h1
  have e : (C.take k).length = k := by rw [List.length_take]; omega
  refine ⟨fun c hc => h0 c (List.mem_of_mem_take hc), o, cap, by rw [e], by omega, h3, fun i hi => ?_⟩
  obtain ⟨g, off, cur, t, fr, h5, h6, h7⟩ := h4 i (by omega)
  exact ⟨g, off, cur, t, fr, h5, h6, fun j hj => by rw [h7 j hj, List.getElem_take]⟩
theorem sl_of {w : World} {B : Nat} {v : Value} {C : List (List Int × List Int)} (h : w.ownsRow B 37 26 v C.length (ccells C)) (hC : Byts C) : Sl w v C := by
  refine ⟨hC, ?_⟩
  obtain ⟨h1, ⟨rfl, h2⟩ | ⟨g, cap, cur, rfl, hB, hcur, h5, h6, _, h4⟩⟩ := h
  · exact ⟨none, 0, by rw [h2], by omega, Nat.zero_le _, fun i hi => by omega⟩
  · refine ⟨_, cap, rfl, h5, h6, fun i hi => ⟨g, 0, cur, _, _, rfl, hcur, fun j hj => ?_⟩⟩
    rw [← ccells_at C hC i hi j hj, ← h4, List.getElem?_take_of_lt (by omega), Nat.zero_add, Nat.mul_comm]
    simp

theorem qlSl {W : World} {ops : Array Oper} {Q : Act → Prop} {rest : List Oper} {o : Oper} {a : Act} (hw : Region.wanted o (yielded ops a.tmps) = true) (x : Operand) (ho : o.op = .load 37 x)
    (g off : Nat) (hx : a.eval x = .pointer (some ⟨g, off, none⟩)) (cs : Array Value) (t : TypeId) (fr : Nat × Nat) (V M : List Int) (hV : V.length = 13) (hM : M.length = 13) (hg : W.heap[g]? = some (.cells cs t fr)) (hc : ∀ j, j < 26 → cs[off + j]? = (cv V M)[j]?)
    (h : wpQuiet Tryz.prog ops (fun w' => ∃ u : Later W, w' = u.world) Q rest (a.put o.dst (.agg (cv V M)))) : wpQuiet Tryz.prog ops (fun w' => ∃ u : Later W, w' = u.world) Q (o :: rest) a := by
  refine BigFrame.wpQuiet_want hw fun K hK => ⟨.agg (cv V M), fun w hC => ?_, hK _ h⟩
  unfold Oper.quietAt execOp
  simp only [ho, hx, Instr.loadAt, Instr.sureAddr, Sem.run_bind, Sem.run_pure, Result.andThen_ok, load_cube w g off cs t fr V M hV hM (later_block hg w hC) hc]
  exact ⟨rfl, rfl⟩

theorem hasL_at {C : List (List Int × List Int)} {H U N : List Int} {k : Nat} (hk : C[k]? = some (U, N)) (h : has U N H = true) : hasL C H = true := by
  unfold hasL
  rw [List.any_eq_true]
  exact ⟨(U, N), List.mem_of_getElem? hk, h⟩
theorem hasL_take {C : List (List Int × List Int)} {H U N : List Int} {k : Nat} (hk : C[k]? = some (U, N)) (h : has U N H = false) (hp : hasL (C.take k) H = false) : hasL (C.take (k + 1)) H = false := by
  unfold hasL at *
  rw [List.take_add_one, hk, List.any_append, hp]
  simp [h]
end Go.Proofs.YtnbklmmampdbfaaGreatDoor
namespace Go.Proofs.YtnbklmmampdbfaaGreatDoor
open Go Go.RowKit
set_option maxRecDepth 20000

/-- How many numbers a piece of so many bits has. -/
def sz (b : Nat) : Nat := 2 ^ (16 - b)
theorem sz_pos (b : Nat) : 0 < sz b := Nat.pow_pos (by decide)
theorem sz_le (b : Nat) : sz b ≤ 65536 := by
  unfold sz
  exact Nat.le_trans (Nat.pow_le_pow_right (by decide) (Nat.sub_le 16 b)) (by decide)
theorem sz_half (b : Nat) (h : b < 16) : sz b = 2 * sz (b + 1) := by
  unfold sz
  rw [show 16 - b = (16 - (b + 1)) + 1 by omega, Nat.pow_succ]; omega
theorem sz_16 : sz 16 = 1 := rfl
theorem sz_0 : sz 0 = 65536 := rfl

/-- A piece of so many bits begins at n and has no number beyond h. -/
def okP (n h b : Nat) : Bool := n % sz b == 0 && decide (n + sz b ≤ h + 1)
theorem okP_iff (n h b : Nat) : okP n h b = true ↔ n % sz b = 0 ∧ n + sz b ≤ h + 1 := by simp [okP]
theorem okP_16 (n h : Nat) (hn : n ≤ h) : okP n h 16 = true := by rw [okP_iff, sz_16]; omega

/-- The fewest bits. -/
def gr (n h : Nat) : Nat := ((List.range 17).find? (okP n h)).getD 16
def IsGr (n h b : Nat) : Prop := b ≤ 16 ∧ okP n h b = true ∧ ∀ c, c < b → okP n h c = false
theorem IsGr.eq {n h b c : Nat} (h1 : IsGr n h b) (h2 : IsGr n h c) : b = c := by
  rcases Nat.lt_trichotomy b c with h3 | h3 | h3
  · exact absurd h1.2.1 (by rw [h2.2.2 b h3]; decide)
  · exact h3
  · exact absurd h2.2.1 (by rw [h1.2.2 c h3]; decide)
theorem gr_is (n h : Nat) (hn : n ≤ h) : IsGr n h (gr n h) := by
  unfold gr
  cases e : (List.range 17).find? (okP n h) with
  | none =>
    rw [List.find?_eq_none] at e
    exact absurd (okP_16 n h hn) (e 16 (by simp))
  | some b =>
    rw [List.find?_range_eq_some] at e
    obtain ⟨h1, h2, h3⟩ := e
    refine ⟨by simp at h2; simp; omega, h1, fun c hc => by simpa using h3 c hc⟩
theorem gr_eq {n h b : Nat} (hn : n ≤ h) (hb : IsGr n h b) : gr n h = b := (gr_is n h hn).eq hb

/-- The pieces from n on, up to h, so many at most. -/
def rngF (h : Nat) : Nat → Nat → List (Nat × Nat)
  | 0, _ => []
  | f + 1, n => if n ≤ h then (n, gr n h) :: rngF h f (n + sz (gr n h)) else []
/-- The pieces from n on, up to h. -/
def rng (h n : Nat) : List (Nat × Nat) := rngF h (h + 1 - n) n
theorem rngF_more (h : Nat) : ∀ f g n, h + 1 - n ≤ f → h + 1 - n ≤ g → rngF h f n = rngF h g n
  | 0, 0, _, _, _ => rfl
  | 0, g + 1, n, hf, _ => by rw [rngF, rngF, if_neg (by omega)]
  | f + 1, 0, n, _, hg => by rw [rngF, rngF, if_neg (by omega)]
  | f + 1, g + 1, n, hf, hg => by
    rw [rngF, rngF]
    by_cases hn : n ≤ h
    · have := sz_pos (gr n h)
      rw [if_pos hn, if_pos hn, rngF_more h f g (n + sz (gr n h)) (by omega) (by omega)]
    · rw [if_neg hn, if_neg hn]
theorem rng_cons {h n : Nat} (hn : n ≤ h) : rng h n = (n, gr n h) :: rng h (n + sz (gr n h)) := by
  have := sz_pos (gr n h)
  unfold rng
  rw [show h + 1 - n = (h - n) + 1 by omega, rngF, if_pos hn, rngF_more h (h - n) (h + 1 - (n + sz (gr n h))) (n + sz (gr n h)) (by omega) (by omega)]
theorem rng_nil {h n : Nat} (hn : h < n) : rng h n = [] := by
  unfold rng
  rw [show h + 1 - n = 0 by omega, rngF]
theorem rng_next {h n : Nat} (hn : n ≤ h) : n < n + sz (gr n h) ∧ n + sz (gr n h) ≤ h + 1 := by
  have := sz_pos (gr n h)
  have := ((okP_iff _ _ _).1 (gr_is n h hn).2.1).2
  omega

theorem rng_induct (h : Nat) (P : Nat → Prop) (h0 : ∀ n, h < n → P n) (h1 : ∀ n, n ≤ h → P (n + sz (gr n h)) → P n) : ∀ n, P n := by
  have key : ∀ d n, h + 1 - n ≤ d → P n := by
    intro d
    induction d with
    | zero => intro n hn; exact h0 n (by omega)
    | succ d ih =>
      intro n hn
      by_cases hl : n ≤ h
      · exact h1 n hl (ih _ (by have := rng_next hl; omega))
      · exact h0 n (by omega)
  exact fun n => key _ n (Nat.le_refl _)

theorem rng_mem (h : Nat) (n : Nat) : ∀ p ∈ rng h n, n ≤ p.1 ∧ p.1 ≤ h ∧ p.2 = gr p.1 h := by
  refine rng_induct h (fun n => ∀ p ∈ rng h n, n ≤ p.1 ∧ p.1 ≤ h ∧ p.2 = gr p.1 h) (fun n hn => by rw [rng_nil hn]; simp) (fun n hn ih => ?_) n
  rw [rng_cons hn]
  intro p hp
  rcases List.mem_cons.1 hp with rfl | hp
  · exact ⟨Nat.le_refl _, hn, rfl⟩
  · have := ih p hp
    have := rng_next hn
    omega
theorem rng_bits {h n : Nat} {p : Nat × Nat} (hp : p ∈ rng h n) : p.2 ≤ 16 := by
  obtain ⟨_, h2, h3⟩ := rng_mem h n p hp
  rw [h3]; exact (gr_is _ _ h2).1

/-- Has a piece a number? -/
def inP (p : Nat × Nat) (x : Nat) : Bool := decide (p.1 ≤ x) && decide (x < p.1 + sz p.2)
theorem cnt_rng (h x : Nat) : ∀ n, ((rng h n).filter fun p => inP p x).length = if n ≤ x ∧ x ≤ h then 1 else 0 := by
  refine rng_induct h _ (fun n hn => ?_) (fun n hn ih => ?_)
  · rw [rng_nil hn, if_neg (by omega)]; rfl
  · have hx := rng_next hn
    rw [rng_cons hn, List.filter_cons]
    by_cases c : n ≤ x ∧ x < n + sz (gr n h)
    · rw [if_pos (by simp [inP, c]), List.length_cons, ih, if_neg (by omega), if_pos (by omega)]
    · rw [if_neg (by simp only [inP, Bool.and_eq_true, decide_eq_true_eq]; exact c), ih]
      by_cases d : n + sz (gr n h) ≤ x ∧ x ≤ h
      · rw [if_pos d, if_pos (by omega)]
      · rw [if_neg d, if_neg (by omega)]

/-- Neighbours rise, and are no two halves of one piece. -/
theorem rng_near (h : Nat) : ∀ n, ∀ k a b, (rng h n)[k]? = some a → (rng h n)[k + 1]? = some b → b.1 = a.1 + sz a.2 ∧ ¬ (a.2 = b.2 ∧ 0 < a.2 ∧ a.1 / sz a.2 % 2 = 0) := by
  refine rng_induct h _ (fun n hn => ?_) (fun n hn ih => ?_)
  · rw [rng_nil hn]; intro k a b ha; simp at ha
  · intro k a b ha hb
    rw [rng_cons hn] at ha hb
    cases k with
    | succ k => exact ih k a b (by simpa using ha) (by simpa using hb)
    | zero =>
      obtain rfl : a = (n, gr n h) := by simpa using ha.symm
      rw [List.getElem?_cons_succ] at hb
      by_cases hl : n + sz (gr n h) ≤ h
      · rw [rng_cons hl] at hb
        obtain rfl : b = (n + sz (gr n h), gr (n + sz (gr n h)) h) := by simpa using hb.symm
        refine ⟨rfl, ?_⟩
        rintro ⟨e1, e2, e3⟩
        have g1 := gr_is n h hn
        have g2 := ((okP_iff _ _ _).1 (gr_is _ h hl).2.1).2
        have g0 := ((okP_iff _ _ _).1 g1.2.1).1
        simp only at e1 e2 e3
        rw [← e1] at g2
        have no := g1.2.2 (gr n h - 1) (by omega)
        have hs : sz (gr n h - 1) = 2 * sz (gr n h) := by
          have := sz_half (gr n h - 1) (by have := g1.1; omega)
          rwa [show gr n h - 1 + 1 = gr n h by omega] at this
        have yes : okP n h (gr n h - 1) = true := by
          rw [okP_iff, hs]
          refine ⟨?_, by omega⟩
          have h1 := Nat.div_add_mod n (sz (gr n h))
          rw [g0] at h1
          have h2 : n / sz (gr n h) = 2 * (n / sz (gr n h) / 2) := by omega
          have h3 : n = 2 * sz (gr n h) * (n / sz (gr n h) / 2) := by
            rw [Nat.mul_comm 2 (sz _), Nat.mul_assoc, ← h2]; omega
          exact Nat.mod_eq_zero_of_dvd ⟨_, h3⟩
        rw [yes] at no
        exact absurd no (by decide)
      · rw [rng_nil (by omega)] at hb; simp at hb

/-- The down-going half: so many pieces at most. -/
theorem rng_down (h : Nat) : ∀ k n, k ≤ 16 → n % 2 ^ k = 0 → h + 1 < n + 2 ^ k → (rng h n).length ≤ k
  | 0, n, _, _, hr => by rw [rng_nil (by simpa using hr)]; exact Nat.le_refl _
  | k + 1, n, hk, hd, hr => by
    have e1 : 2 ^ (k + 1) = 2 * 2 ^ k := by rw [Nat.pow_succ]; omega
    have hdk : n % 2 ^ k = 0 := by
      rw [e1] at hd
      have := Nat.div_add_mod n (2 * 2 ^ k)
      rw [hd] at this
      rw [← this, Nat.add_zero, Nat.mul_comm 2, Nat.mul_assoc]
      exact Nat.mul_mod_right _ _
    by_cases hs : h + 1 < n + 2 ^ k
    · exact Nat.le_succ_of_le (rng_down h k n (by omega) hdk hs)
    · have hp : 0 < 2 ^ k := Nat.pow_pos (by decide)
      have hn : n ≤ h := by omega
      have hg : gr n h = 16 - k := by
        refine gr_eq hn ⟨by omega, ?_, fun c hc => ?_⟩
        · rw [okP_iff, sz, show 16 - (16 - k) = k by omega]; exact ⟨hdk, by omega⟩
        · cases e : okP n h c with
          | false => rfl
          | true =>
            have h2 := ((okP_iff _ _ _).1 e).2
            have : 2 ^ (k + 1) ≤ sz c := Nat.pow_le_pow_right (by decide) (by omega)
            omega
      have hz : sz (gr n h) = 2 ^ k := by rw [hg, sz, show 16 - (16 - k) = k by omega]
      rw [rng_cons hn, List.length_cons, hz]
      have := rng_down h k (n + 2 ^ k) (by omega) (by rw [Nat.add_mod_right]; exact hdk) (by omega)
      omega

/-- The up-going half. -/
theorem rng_up (h : Nat) (hh : h ≤ 65535) : ∀ d n, d ≤ 15 → 0 < n → n ≤ 65536 → n % 2 ^ (15 - d) = 0 → (rng h n).length ≤ 15 + d
  | 0, n, _, h0, h1, hd => by
    have hd' : n % 32768 = 0 := hd
    rcases (show n = 32768 ∨ n = 65536 by omega) with rfl | rfl
    · by_cases hr : h + 1 < 32768 + 32768
      · exact rng_down h 15 32768 (by decide) (by decide) hr
      · obtain rfl : h = 65535 := by omega
        have hg : gr 32768 65535 = 1 := by decide
        rw [rng_cons (by decide), hg, rng_nil (by decide)]
        decide
    · rw [rng_nil (by omega)]; exact Nat.zero_le _
  | d + 1, n, hd1, h0, h1, hd => by
    obtain ⟨j, hj⟩ : ∃ j, j = 15 - (d + 1) := ⟨_, rfl⟩
    have hj1 : 15 - d = j + 1 := by omega
    rw [← hj] at hd
    have e1 : 2 ^ (j + 1) = 2 * 2 ^ j := by rw [Nat.pow_succ]; omega
    have hp : 0 < 2 ^ j := Nat.pow_pos (by decide)
    by_cases he : n % 2 ^ (j + 1) = 0
    · exact Nat.le_succ_of_le (rng_up h hh d n (by omega) h0 h1 (by rw [hj1]; exact he))
    · by_cases hr : h + 1 < n + 2 ^ j
      · have := rng_down h j n (by omega) hd hr
        omega
      · have hn : n ≤ h := by omega
        have hg : gr n h = 16 - j := by
          refine gr_eq hn ⟨by omega, ?_, fun c hc => ?_⟩
          · rw [okP_iff, sz, show 16 - (16 - j) = j by omega]; exact ⟨hd, by omega⟩
          · cases e : okP n h c with
            | false => rfl
            | true =>
              have h2 := ((okP_iff _ _ _).1 e).1
              refine absurd ?_ he
              have : 2 ^ (j + 1) ∣ sz c := Nat.pow_dvd_pow 2 (by omega)
              exact Nat.mod_eq_zero_of_dvd (Nat.dvd_trans this (Nat.dvd_of_mod_eq_zero h2))
        have hz : sz (gr n h) = 2 ^ j := by rw [hg, sz, show 16 - (16 - j) = j by omega]
        rw [rng_cons hn, List.length_cons, hz]
        have hm : (n + 2 ^ j) % 2 ^ (j + 1) = 0 := by
          rw [e1] at he ⊢
          have h2 := Nat.div_add_mod n (2 ^ j)
          rw [hd] at h2
          have h3 : ¬ (n / 2 ^ j) % 2 = 0 := fun h4 => he (by
            have h5 : n / 2 ^ j = 2 * (n / 2 ^ j / 2) := by omega
            have h6 : n = 2 * 2 ^ j * (n / 2 ^ j / 2) := by
              rw [Nat.mul_comm 2 (2 ^ j), Nat.mul_assoc, ← h5]; omega
            rw [h6]; exact Nat.mul_mod_right _ _)
          have h5 : n / 2 ^ j + 1 = 2 * ((n / 2 ^ j + 1) / 2) := by omega
          have h6 : n + 2 ^ j = 2 * 2 ^ j * ((n / 2 ^ j + 1) / 2) := by
            rw [Nat.mul_comm 2 (2 ^ j), Nat.mul_assoc, ← h5, Nat.mul_add]; omega
          rw [h6]; exact Nat.mul_mod_right _ _
        have := rng_up h hh d (n + 2 ^ j) (by omega) (by omega) (by omega) (by rw [hj1]; exact hm)
        omega

theorem rng_few (h n : Nat) (hh : h ≤ 65535) (hn : n ≤ 65536) : (rng h n).length ≤ 30 := by
  by_cases h0 : n = 0
  · subst h0
    by_cases hr : h + 1 < 0 + 2 ^ 16
    · have := rng_down h 16 0 (by decide) (by decide) hr
      omega
    · obtain rfl : h = 65535 := by omega
      have hg : gr 0 65535 = 0 := by decide
      rw [rng_cons (by decide), hg, rng_nil (by decide)]
      decide
  · exact rng_up h hh 15 n (by decide) (by omega) hn (by rw [show 15 - 15 = 0 from rfl, Nat.pow_zero]; exact Nat.mod_one n)

theorem rng_16 : rng 6 1 = [(1, 16), (2, 15), (4, 15), (6, 16)] := by
  rw [rng_cons (by decide), show gr 1 6 = 16 by decide, show 1 + sz 16 = 2 by decide, rng_cons (by decide), show gr 2 6 = 15 by decide, show 2 + sz 15 = 4 by decide, rng_cons (by decide), show gr 4 6 = 15 by decide, show 4 + sz 15 = 6 by decide, rng_cons (by decide), show gr 6 6 = 16 by decide, show 6 + sz 16 = 7 by decide, rng_nil (by decide)]
end Go.Proofs.YtnbklmmampdbfaaGreatDoor
namespace Go.Proofs.YtnbklmmampdbfaaGreatDoor
open Go Go.RowKit
set_option maxRecDepth 20000

/-- The cells of a piece. -/
abbrev pv (n b : Int) : Array Value := #[.int .i64 n, .int .i64 b]

set_option maxHeartbeats 1000000 in
theorem size_any (n : Int) (b : Nat) (hb : b ≤ 16) (w : World) :
    Calls Tryz.prog 81 #[.agg (pv n (b : Int))] w fun e w' => e = .returned (.int .i64 ((sz b : Nat) : Int)) ∧ Below w.heap.size w w' := by
  have h : b = 0 ∨ b = 1 ∨ b = 2 ∨ b = 3 ∨ b = 4 ∨ b = 5 ∨ b = 6 ∨ b = 7 ∨ b = 8 ∨ b = 9 ∨ b = 10 ∨ b = 11 ∨ b = 12 ∨ b = 13 ∨ b = 14 ∨ b = 15 ∨ b = 16 := by omega
  clear hb
  rcases h with h | h | h | h | h | h | h | h | h | h | h | h | h | h | h | h | h
  all_goals
    subst h
    go_enter Tryz.func81, Tryz.ntmps81
    go_wp2
    go_ret
    exact ⟨rfl, (Below.refl _ _).alloc (Nat.le_refl _) _⟩

theorem infoP : ∃ i, Tryz.prog.info? 102 = some i ∧ i.zero = some (.agg (pv 0 0)) ∧ i.size = 2 ∧ i.bytes = 16 := by
  cases h : Tryz.prog.info? 102 with
  | none => exact absurd (show (Tryz.prog.info? 102).isSome = true by kernel_rfl) (by rw [h]; simp)
  | some i =>
    have h1 : (Tryz.prog.info? 102).map (fun i => (i.zero, i.size, i.bytes)) = some (some (.agg (pv 0 0)), 2, 16) := by kernel_rfl
    rw [h] at h1
    simp only [Option.map_some, Option.some.injEq, Prod.mk.injEq] at h1
    exact ⟨i, rfl, h1.1, h1.2.1, h1.2.2⟩
theorem sizeP (n b : Int) : (Tryz.prog.info? 102).map (·.size) = some (pv n b).size := by kernel_rfl
theorem oneP (n b : Int) : (pv n b).all (·.oneCell') = true := by simp [pv, Value.oneCell']

/-- A piece that lies within a block, from a place on. -/
theorem load_piece (w : World) (g off : Nat) (cs : Array Value) (t : TypeId) (fr : Nat × Nat) (n b : Int) (hg : w.heap[g]? = some (.cells cs t fr)) (hc : ∀ j, j < 2 → cs[off + j]? = (pv n b)[j]?) :
    (loadVar 102 ⟨g, off, none⟩).run Tryz.prog w = .ok (.agg (pv n b)) w := by
  have hl : (loadCells ⟨g, off, none⟩ (pv n b).toList.length).run Tryz.prog w = .ok (pv n b).toList.toArray w :=
    run_loadCells_list (P := Tryz.prog) w ⟨g, off, none⟩ (pv n b).toList (fun j v hv => by
      have hadd : (⟨g, off, none⟩ : Addr).add j = ⟨g, off + j, none⟩ := by unfold Addr.add; split <;> simp_all
      have hj : j < 2 := by
        have := (List.getElem?_eq_some_iff.1 hv).1
        simpa using this
      rw [hadd, cell_of_row w g (off + j) cs t fr hg, hc j hj]
      simpa using hv)
  obtain ⟨i, hq, _, hs, _⟩ := infoP
  have hagg : (isAgg 102).run Tryz.prog w = .ok true w := by
    unfold isAgg
    rw [Sem.run_bind, run_underlying Tryz.underlying102 w]
    rfl
  rw [Array.length_toList, Array.toArray_toList] at hl
  have hl' : (loadCells ⟨g, off, none⟩ 2).run Tryz.prog w = .ok (pv n b) w := hl
  simp [loadVar, Sem.run_bind, hagg, sizeOf, typeInfo, hq, hs, hl']
theorem wl_loadP {ops : Array Oper} {rest : List Oper} {o : Oper} {a : Act} {w : World} {Q : Exit → Act → World → Prop} (hw : Region.wanted o (yielded ops a.tmps) = true) (x : Operand) (ho : o.op = .load 102 x)
    (g off : Nat) (hx : a.eval x = .pointer (some ⟨g, off, none⟩)) (cs : Array Value) (t : TypeId) (fr : Nat × Nat) (n b : Int) (hg : w.heap[g]? = some (.cells cs t fr)) (hc : ∀ j, j < 2 → cs[off + j]? = (pv n b)[j]?)
    (h : wpList Tryz.prog ops Q rest (a.put o.dst (.agg (pv n b))) w) : wpList Tryz.prog ops Q (o :: rest) a w := by
  refine wpList_step fun K hK => ?_
  rw [if_pos hw]
  unfold Oper.wp execOp
  simp only [ho, hx, Instr.loadAt, Instr.sureAddr, Sem.run_bind, Sem.run_pure, Result.andThen_ok, load_piece w g off cs t fr n b hg hc]
  exact hK _ _ h
theorem own_piece (n b : Int) : ∀ j, j < 2 → (pv n b)[0 + j]? = (pv n b)[j]? := fun j _ => by rw [Nat.zero_add]
/-- A whole piece is stored into a block that holds one. -/
theorem wl_storeP {ops : Array Oper} {rest : List Oper} {o : Oper} {a : Act} {w : World} {Q : Exit → Act → World → Prop} (hgd : o.guard = none) (x y : Operand) (ho : o.op = .store 102 x y)
    (g : Nat) (n b : Int) (hx : a.eval x = .pointer (some ⟨g, 0, none⟩)) (hy : a.eval y = .agg (pv n b)) (n0 b0 : Int) (hg : w.heap[g]? = some (.cells (pv n0 b0) 102 (0, 0)))
    (w' : World) (hw' : w.setRow g (pv n b) = w')
    (h : wpList Tryz.prog ops Q rest (a.put o.dst undef) w') : wpList Tryz.prog ops Q (o :: rest) a w :=
  wpList_store_row hgd 102 x y ho g (pv n b) hx hy 102 (pv n0 b0) hg (sizeP n b) rfl (oneP n b) (by rw [hw']; exact h)
/-- The end of a function whose one result is a piece in memory. -/
theorem retP {fn : Func} {R : Ending → World → Prop} {a : Act} {w : World} {p : Tmp} (hr : fn.results = #[.cell p 102]) (hd : a.defers = []) (g : Nat) (hp : a.tmps.getD p undef = .pointer (some ⟨g, 0, none⟩)) (n b : Int)
    (hg : w.heap[g]? = some (.cells (pv n b) 102 (0, 0))) (h : R (.returned (.agg (pv n b))) w) : bodyPost Tryz.prog fn R .ret a w :=
  bodyPost_ret (v := .agg (pv n b)) (results_cell_row hr _ _ g 102 (pv n b) (0, 0) _ hp hg Tryz.underlying102 rfl (sizeP n b)) hd h

theorem setCell_row {w : World} {g k : Nat} {cs : Array Value} {t : TypeId} {fr : Nat × Nat} (h : w.heap[g]? = some (.cells cs t fr)) (v : Value) : (w.setCell ⟨g, k, none⟩ v).heap[g]? = some (.cells (cs.setIfInBounds k v) t fr) := by
  simp [World.setCell, Array.getElem?_modify, h]
theorem setCell_far {w : World} {g g' k : Nat} (h : g ≠ g') (v : Value) : (w.setCell ⟨g, k, none⟩ v).heap[g']? = w.heap[g']? := by
  simp [World.setCell, Array.getElem?_modify, h]
theorem below_setCell {B : Nat} {a w : World} (h : Below B a w) {g : Nat} (hg : B ≤ g) (k : Nat) (v : Value) : Below B a (w.setCell ⟨g, k, none⟩ v) :=
  ⟨h.os, h.tape, h.output, by simpa [World.setCell] using h.size, fun j hj => (setCell_far (by omega) v).trans (h.block j hj)⟩
theorem frozen_row {w : World} {g k : Nat} {cs : Array Value} {t : TypeId} {fr : Nat × Nat} (h : w.heap[g]? = some (.cells cs t fr)) (hf : fr = (0, 0)) : w.frozen? ⟨g, k, none⟩ = false := by
  subst hf
  simp [World.frozen?, h]

/-- A piece's bits, as they lie in memory. -/
def bitsAt (w : World) (g : Nat) : Nat := match w.heap[g]? with
  | some (.cells cs _ _) => (intOf (cs.getD 1 undef)).toNat
  | _ => 0
theorem bitsAt_eq {w : World} {g : Nat} {n : Int} {b : Nat} {t : TypeId} {fr : Nat × Nat} (h : w.heap[g]? = some (.cells (pv n (b : Int)) t fr)) : bitsAt w g = b := by
  unfold bitsAt
  rw [h]
  simp [intOf]

theorem next_no {n h b : Nat} (h1 : ∀ c, c < b → okP n h c = false) (h2 : ¬ n % sz b = 0 ∨ h + 1 < n + sz b) : ∀ c, c < b + 1 → okP n h c = false := fun c hc => by
  rcases Nat.lt_or_ge c b with hl | hl
  · exact h1 c hl
  · obtain rfl : c = b := by omega
    cases e : okP n h c with
    | false => rfl
    | true =>
      have := (okP_iff _ _ _).1 e
      omega

set_option maxHeartbeats 1000000 in
theorem greatest_any (n h : Nat) (hn : n ≤ h) (hh : h ≤ 65535) (w : World) :
    Calls Tryz.prog 80 #[.int .i64 (n : Int), .int .i64 (h : Int)] w fun e w' => e = .returned (.agg (pv (n : Int) ((gr n h : Nat) : Int))) ∧ Below w.heap.size w w' := by
  have SZ : Hid (∀ b : Nat, b ≤ 16 → ∀ W, Calls Tryz.prog 81 #[.agg (pv (n : Int) (b : Int))] W fun e w' => e = .returned (.int .i64 ((sz b : Nat) : Int)) ∧ Below W.heap.size W w') := fun b hb W => size_any (n : Int) b hb W
  go_enter Tryz.func80, Tryz.ntmps80
  go_wp2
  go_loopw [] (fun wr => ∃ b : Nat, b ≤ 16 ∧ (∀ c, c < b → okP n h c = false) ∧ wr.heap[w.heap.size]? = some (.cells (pv 0 0) 102 (0, 0)) ∧ wr.heap[w.heap.size + 1]? = some (.cells (pv (n : Int) (b : Int)) 102 (0, 0)) ∧ Below w.heap.size w wr) (fun wr => 16 - bitsAt wr (w.heap.size + 1))
  case atStart => exact ⟨0, Nat.zero_le _, fun c hc => by omega, heap_past _ _ _ _ (heap_new _ _ _ rfl), heap_new _ _ _ (by simp), ((Below.refl _ _).alloc (Nat.le_refl _) _).alloc (by simp) _⟩
  case round =>
    obtain ⟨b, hb, hno, g0, g1, hbw⟩ := hrel
    have D : Hid (∀ W, Calls Tryz.prog 81 #[.agg (pv (n : Int) (b : Int))] W fun e w' => e = .returned (.int .i64 ((sz b : Nat) : Int)) ∧ Below W.heap.size W w') := SZ.out b hb
    have HNO : Hid (∀ c, c < b → okP n h c = false) := hno
    have hs0 := sz_pos b
    have hs1 := sz_le b
    obtain ⟨s, hs⟩ : ∃ s, s = sz b := ⟨_, rfl⟩
    rw [← hs] at D hs0 hs1
    have HS : Hid (s = sz b) := hs
    clear hno hs
    have c0 : wr.cell? ⟨w.heap.size + 1, 0, none⟩ = some (.int .i64 (n : Int)) := by rw [cell_of_row _ _ _ _ _ _ g1]; rfl
    have c1 : wr.cell? ⟨w.heap.size + 1, 1, none⟩ = some (.int .i64 (b : Int)) := by rw [cell_of_row _ _ _ _ _ _ g1]; rfl
    go_wp2_with fail
    refine (D.out _).mono ?_
    rintro e w1 ⟨rfl, hb1⟩
    have k1 : w1.heap[w.heap.size + 1]? = some (.cells (pv (n : Int) (b : Int)) 102 (0, 0)) := by rw [hb1.block _ (Array.getElem?_eq_some_iff.1 g1).1]; exact g1
    have k0 : w1.heap[w.heap.size]? = some (.cells (pv 0 0) 102 (0, 0)) := by rw [hb1.block _ (Array.getElem?_eq_some_iff.1 g0).1]; exact g0
    have c2 : w1.cell? ⟨w.heap.size + 1, 0, none⟩ = some (.int .i64 (n : Int)) := by rw [cell_of_row _ _ _ _ _ _ k1]; rfl
    have c3 : w1.cell? ⟨w.heap.size + 1, 1, none⟩ = some (.int .i64 (b : Int)) := by rw [cell_of_row _ _ _ _ _ _ k1]; rfl
    have B1 := hbw.trans (hb1.mono hbw.size)
    clear c0 c1 hb1 hbw
    by_cases hm : (n : Int) % (s : Int) = 0
    · go_wp2_with fail
      refine (D.out _).mono ?_
      rintro e w2 ⟨rfl, hb2⟩
      have k3 : w2.heap[w.heap.size + 1]? = some (.cells (pv (n : Int) (b : Int)) 102 (0, 0)) := by rw [hb2.block _ (Array.getElem?_eq_some_iff.1 k1).1]; exact k1
      have k2 : w2.heap[w.heap.size]? = some (.cells (pv 0 0) 102 (0, 0)) := by rw [hb2.block _ (Array.getElem?_eq_some_iff.1 k0).1]; exact k0
      have c4 : w2.cell? ⟨w.heap.size + 1, 0, none⟩ = some (.int .i64 (n : Int)) := by rw [cell_of_row _ _ _ _ _ _ k3]; rfl
      have c5 : w2.cell? ⟨w.heap.size + 1, 1, none⟩ = some (.int .i64 (b : Int)) := by rw [cell_of_row _ _ _ _ _ _ k3]; rfl
      have B2 := B1.trans (hb2.mono B1.size)
      clear c2 c3 hb2 B1
      have f5 := frozen_row (k := 1) k3 rfl
      by_cases hf : (n : Int) + (s : Int) - 1 > (h : Int)
      · go_wp2_with fail
        refine ⟨⟨b + 1, ?_, ?_, (setCell_far (by omega) _).trans k2, setCell_row k3 _, below_setCell B2 (by omega) _ _⟩, ?_⟩
        · rcases Nat.lt_or_ge b 16 with h16 | h16
          · omega
          · obtain rfl : b = 16 := by omega
            have := HS.out
            rw [sz_16] at this
            omega
        · exact next_no HNO.out (by rw [← HS.out]; exact .inr (by omega))
        · rw [bitsAt_eq (n := (n : Int)) (b := b + 1) (setCell_row k3 _), bitsAt_eq g1]
          rcases Nat.lt_or_ge b 16 with h16 | h16
          · omega
          · obtain rfl : b = 16 := by omega
            have := HS.out
            rw [sz_16] at this
            omega
      · go_wp2_with (first
          | (refine wl_loadP rfl _ rfl (w.heap.size + 1) 0 rfl _ _ _ (n : Int) (b : Int) k3 (own_piece _ _) ?_)
          | (refine wl_storeP rfl _ _ rfl w.heap.size (n : Int) (b : Int) rfl rfl 0 0 k2 _ rfl ?_))
        refine retP (p := 4) rfl rfl w.heap.size rfl (n : Int) (b : Int) (setRow_heap _ _ _ _ _ _ k2) ⟨?_, below_setRow B2 (Nat.le_refl _) _⟩
        rw [gr_eq hn ⟨hb, (okP_iff _ _ _).2 ?_, HNO.out⟩]
        rw [← HS.out]
        exact ⟨by omega, by omega⟩
    · have f3 := frozen_row (k := 1) k1 rfl
      go_wp2_with fail
      refine ⟨⟨b + 1, ?_, ?_, (setCell_far (by omega) _).trans k0, setCell_row k1 _, below_setCell B1 (by omega) _ _⟩, ?_⟩
      · rcases Nat.lt_or_ge b 16 with h16 | h16
        · omega
        · obtain rfl : b = 16 := by omega
          have := HS.out
          rw [sz_16] at this
          subst this
          omega
      · exact next_no HNO.out (by rw [← HS.out]; exact .inl (by omega))
      · rw [bitsAt_eq (n := (n : Int)) (b := b + 1) (setCell_row k1 _), bitsAt_eq g1]
        rcases Nat.lt_or_ge b 16 with h16 | h16
        · omega
        · obtain rfl : b = 16 := by omega
          have := HS.out
          rw [sz_16] at this
          subst this
          omega
end Go.Proofs.YtnbklmmampdbfaaGreatDoor
namespace Go.Proofs.YtnbklmmampdbfaaGreatDoor
open Go Go.RowKit
set_option maxRecDepth 20000

theorem own_slice {w : World} {B : Nat} {e : TypeId} {s : Nat} {v : Value} {n : Nat} {xs : List Value} (h : w.ownsRow B e s v n xs) : ∃ o cap, v = .slice o n cap := by
  obtain ⟨_, ⟨rfl, rfl⟩ | ⟨g, cap, cur, rfl, _⟩⟩ := h
  · exact ⟨none, 0, rfl⟩
  · exact ⟨_, cap, rfl⟩
theorem ccells_len (C : List (List Int × List Int)) (hC : Byts C) : (ccells C).length = C.length * 26 := by
  induction C with
  | nil => rfl
  | cons c C ih =>
    have h1 := hC c (by simp)
    rw [show ccells (c :: C) = (cv c.1 c.2).toList ++ ccells C by simp [ccells], List.length_append, ih (fun d hd => hC d (by simp [hd])), Array.length_toList, cv_size _ _ h1.1.1 h1.2.1, List.length_cons]
    omega
theorem ccells_one' (C : List (List Int × List Int)) : ∀ u ∈ ccells C, u.oneCell' = true := fun u hu => by
  unfold ccells at hu
  rw [List.mem_flatMap] at hu
  obtain ⟨c, _, hc⟩ := hu
  exact (Array.all_eq_true_iff_forall_mem.1 (cv_one c.1 c.2)) u (by simpa using hc)

/-- Cubes of one's own row appended to another one's. -/
theorem wl_appendC {ops : Array Oper} {rest : List Oper} {o : Oper} {a : Act} {w : World} {Q : Exit → Act → World → Prop} (hgd : o.guard = none) (s x : Operand) (ho : o.op = .call { callee := .builtin .append, args := #[s, x], argTypes := #[49, 49] })
    (base base' : Nat) (v u : Value) (C D : List (List Int × List Int)) (hs : a.eval s = v) (hown : w.ownsRow base 37 26 v C.length (ccells C)) (hx : a.eval x = u) (hu : w.ownsRow base' 37 26 u D.length (ccells D)) (hD : Byts D)
    (hn : C.length + D.length ≤ 1000000) (hbase : base ≤ w.heap.size)
    (h : ∀ v' w', w'.ownsRow base 37 26 v' (C ++ D).length (ccells (C ++ D)) → w.grownBy w' v.ownBlock → wpList Tryz.prog ops Q rest (a.put o.dst v') w') : wpList Tryz.prog ops Q (o :: rest) a w := by
  obtain ⟨i0, hi, hz0, hz1, hz2⟩ := infoC
  have hu0 := hu
  obtain ⟨_, ⟨rfl, h0⟩ | ⟨g, cap, cur, rfl, hB, hcur, h1, h2, h3, h4⟩⟩ := hu
  · have hD0 : D = [] := List.eq_nil_of_length_eq_zero h0
    subst hD0
    refine wpList_append_own_none hgd s x 49 ho base 37 i0 26 Tryz.underlying49 hi v _ _ hs hown hx (h v w ?_ ?_)
    · rw [List.append_nil]; exact hown
    · exact ⟨rfl, rfl, rfl, Nat.le_refl _, fun k _ _ => rfl⟩
  · refine wpList_append_own w hgd s x 49 ho base 37 i0 (.agg zeroC) 26 26 Tryz.underlying49 hi hz0 hz1 hz2 rfl (by decide) v _ _ hs hown ⟨g, 0, none⟩ D.length cap (ccells D) hx (ccells_len D hD) (fun j y hy => ?_) (ccells_one' D) (by unfold maxLen; omega) (by omega) hbase ?_
    · have hj : j < D.length * 26 := by rw [← ccells_len D hD]; exact (List.getElem?_eq_some_iff.1 hy).1
      have hadd : (⟨g, 0, none⟩ : Addr).add j = ⟨g, j, none⟩ := by unfold Addr.add; split <;> simp_all
      rw [hadd, hu0.cellAt j hj]; exact hy
    · intro v' w' h5 h6 _
      refine h v' w' ?_ h6
      rw [List.length_append, ccells_append]; exact h5
end Go.Proofs.YtnbklmmampdbfaaGreatDoor
namespace Go.Proofs.YtnbklmmampdbfaaGreatDoor
open Go Go.RowKit
set_option maxRecDepth 20000

/-- The cells of a list of pieces. -/
def pcells (P : List (Nat × Nat)) : List Value := P.flatMap fun p => (pv (p.1 : Int) (p.2 : Int)).toList
theorem pcells_append (P Q : List (Nat × Nat)) : pcells (P ++ Q) = pcells P ++ pcells Q := by simp [pcells]
theorem pcells_one (p : Nat × Nat) : pcells [p] = (pv (p.1 : Int) (p.2 : Int)).toList := by simp [pcells]
theorem pcells_len (P : List (Nat × Nat)) : (pcells P).length = P.length * 2 := by
  induction P with
  | nil => rfl
  | cons p P ih =>
    rw [show pcells (p :: P) = (pv (p.1 : Int) (p.2 : Int)).toList ++ pcells P by simp [pcells], List.length_append, ih, List.length_cons]
    simp; omega
theorem pcells_at : ∀ (P : List (Nat × Nat)) (i : Nat) (hi : i < P.length) (j : Nat), j < 2 → (pcells P)[2 * i + j]? = (pv (P[i].1 : Int) (P[i].2 : Int))[j]?
  | [], i, hi, _, _ => absurd hi (by simp)
  | p :: P, 0, _, j, hj => by
    rw [show pcells (p :: P) = (pv (p.1 : Int) (p.2 : Int)).toList ++ pcells P by simp [pcells], Nat.mul_zero, Nat.zero_add, List.getElem?_append_left (by simpa using hj)]
    simp
  | p :: P, i + 1, hi, j, hj => by
    have ih := pcells_at P i (by simpa using hi) j hj
    rw [show pcells (p :: P) = (pv (p.1 : Int) (p.2 : Int)).toList ++ pcells P by simp [pcells], show 2 * (i + 1) + j = 2 + (2 * i + j) by omega, List.getElem?_append_right (by simp)]
    simpa using ih

/-- A slice of one piece. -/
theorem wl_buildP {ops : Array Oper} {rest : List Oper} {o : Oper} {a : Act} {w : World} {Q : Exit → Act → World → Prop} (hg : o.guard = none) (x : Operand) (ho : o.op = .buildSlice 68 1 #[(0, x)]) (n b : Int) (hx : a.eval x = .agg (pv n b))
    (h : wpList Tryz.prog ops Q rest (a.put o.dst (.slice (some ⟨w.heap.size, 0, none⟩) 1 1)) (w.alloc (.cells (pv n b) 102))) : wpList Tryz.prog ops Q (o :: rest) a w := by
  obtain ⟨ie, hie, hz, hs, _⟩ := infoP
  refine wpList_buildSlice hg 68 102 1 _ ho (pv n b) ie (.agg (pv 0 0)) Tryz.underlying68 hie hz (by rw [hs]; decide) (by rw [hs]; decide) ?_ h
  simp only [List.map_toArray, List.map_cons, List.map_nil, hx, Instr.fill, hs, Nat.zero_mul, Value.cells]
  rw [if_neg (by simp)]
  congr 1
  exact fold_all _ _ (by simp)

/-- One piece appended to one's own row of them. -/
theorem wl_appendP {ops : Array Oper} {rest : List Oper} {o : Oper} {a : Act} {w : World} {Q : Exit → Act → World → Prop} (hgd : o.guard = none) (s x : Operand) (ho : o.op = .call { callee := .builtin .append, args := #[s, x], argTypes := #[68, 68] })
    (base : Nat) (v : Value) (P : List (Nat × Nat)) (p : Nat × Nat) (hs : a.eval s = v) (hown : w.ownsRow base 102 2 v P.length (pcells P)) (g cap : Nat) (hx : a.eval x = .slice (some ⟨g, 0, none⟩) 1 cap) (hg : w.heap[g]? = some (.cells (pv (p.1 : Int) (p.2 : Int)) 102 (0, 0)))
    (hn : P.length ≤ 1000000) (hbase : base ≤ w.heap.size)
    (h : ∀ v' w', w'.ownsRow base 102 2 v' (P ++ [p]).length (pcells (P ++ [p])) → w.grownBy w' v.ownBlock → wpList Tryz.prog ops Q rest (a.put o.dst v') w') : wpList Tryz.prog ops Q (o :: rest) a w := by
  obtain ⟨i0, hi, hz0, hz1, hz2⟩ := infoP
  refine wpList_append_own w hgd s x 68 ho base 102 i0 (.agg (pv 0 0)) 2 16 Tryz.underlying68 hi hz0 hz1 hz2 rfl (by decide) v _ _ hs hown ⟨g, 0, none⟩ 1 cap (pcells [p]) hx (by rw [pcells_len]; rfl) (fun j y hy => ?_) (fun u hu => ?_) (by unfold maxLen; omega) (by omega) hbase ?_
  · have hadd : (⟨g, 0, none⟩ : Addr).add j = ⟨g, j, none⟩ := by unfold Addr.add; split <;> simp_all
    rw [hadd, cell_of_row w g j _ _ _ hg, ← hy, pcells_one]
    simp
  · rw [pcells_one] at hu
    exact (Array.all_eq_true_iff_forall_mem.1 (oneP _ _)) u (by simpa using hu)
  · intro v' w' h5 h6 _
    refine h v' w' ?_ h6
    rw [List.length_append, pcells_append]; exact h5

/-- A slice, wherever it lies, whose elements are these pieces. -/
def Sp (w : World) (v : Value) (P : List (Nat × Nat)) : Prop :=
  ∃ (o : Option Addr) (cap : Nat), v = .slice o P.length cap ∧ P.length ≤ cap ∧ cap ≤ maxLen ∧ ∀ (i : Nat) (hi : i < P.length), ∃ g off cur t fr, o = some ⟨g, off, none⟩ ∧ w.heap[g]? = some (.cells cur t fr) ∧ ∀ j, j < 2 → cur[off + i * 2 + j]? = (pv (P[i].1 : Int) (P[i].2 : Int))[j]?
theorem Sp.below {w w' : World} {v : Value} {P : List (Nat × Nat)} (h : Sp w v P) (hb : Below w.heap.size w w') : Sp w' v P := by
  obtain ⟨o, cap, rfl, h1, h2, h3⟩ := h
  refine ⟨o, cap, rfl, h1, h2, fun i hi => ?_⟩
  obtain ⟨g, off, cur, t, fr, h4, h5, h6⟩ := h3 i hi
  exact ⟨g, off, cur, t, fr, h4, (hb.block g (Array.getElem?_eq_some_iff.1 h5).1).trans h5, h6⟩
theorem Sp.slice {w : World} {v : Value} {P : List (Nat × Nat)} (h : Sp w v P) : ∃ (o : Option Addr) (cap : Nat), v = .slice o P.length cap ∧ P.length ≤ cap ∧ cap ≤ maxLen := by
  obtain ⟨o, cap, h1, h2, h3, _⟩ := h
  exact ⟨o, cap, h1, h2, h3⟩
theorem Sp.at {w : World} {o : Option Addr} {n cap : Nat} {P : List (Nat × Nat)} (h : Sp w (.slice o n cap) P) (k : Nat) (hk : k < n) :
    ∃ g off cur t fr, ∃ p : Nat × Nat, o = some ⟨g, off, none⟩ ∧ w.heap[g]? = some (.cells cur t fr) ∧ (∀ j, j < 2 → cur[off + k * 2 + j]? = (pv (p.1 : Int) (p.2 : Int))[j]?) ∧ P[k]? = some p := by
  obtain ⟨o', cap', h1, _, _, h3⟩ := h
  simp only [Value.slice.injEq] at h1
  obtain ⟨rfl, rfl, rfl⟩ := h1
  obtain ⟨g, off, cur, t, fr, h4, h5, h6⟩ := h3 k hk
  exact ⟨g, off, cur, t, fr, P[k], h4, h5, h6, List.getElem?_eq_getElem hk⟩
theorem sp_of {w : World} {B : Nat} {v : Value} {P : List (Nat × Nat)} (h : w.ownsRow B 102 2 v P.length (pcells P)) : Sp w v P := by
  obtain ⟨h1, ⟨rfl, h2⟩ | ⟨g, cap, cur, rfl, hB, hcur, h5, h6, _, h4⟩⟩ := h
  · exact ⟨none, 0, by rw [h2], by omega, Nat.zero_le _, fun i hi => by omega⟩
  · refine ⟨_, cap, rfl, h5, h6, fun i hi => ⟨g, 0, cur, _, _, rfl, hcur, fun j hj => ?_⟩⟩
    rw [← pcells_at P i hi j hj, ← h4, List.getElem?_take_of_lt (by omega), Nat.zero_add, Nat.mul_comm]
    simp

theorem qlP {W : World} {ops : Array Oper} {Q : Act → Prop} {rest : List Oper} {o : Oper} {a : Act} (hw : Region.wanted o (yielded ops a.tmps) = true) (x : Operand) (ho : o.op = .load 102 x)
    (g off : Nat) (hx : a.eval x = .pointer (some ⟨g, off, none⟩)) (cs : Array Value) (t : TypeId) (fr : Nat × Nat) (n b : Int) (hg : W.heap[g]? = some (.cells cs t fr)) (hc : ∀ j, j < 2 → cs[off + j]? = (pv n b)[j]?)
    (h : wpQuiet Tryz.prog ops (fun w' => ∃ u : Later W, w' = u.world) Q rest (a.put o.dst (.agg (pv n b)))) : wpQuiet Tryz.prog ops (fun w' => ∃ u : Later W, w' = u.world) Q (o :: rest) a := by
  refine BigFrame.wpQuiet_want hw fun K hK => ⟨.agg (pv n b), fun w hC => ?_, hK _ h⟩
  unfold Oper.quietAt execOp
  simp only [ho, hx, Instr.loadAt, Instr.sureAddr, Sem.run_bind, Sem.run_pure, Result.andThen_ok, load_piece w g off cs t fr n b (later_block hg w hC) hc]
  exact ⟨rfl, rfl⟩
end Go.Proofs.YtnbklmmampdbfaaGreatDoor
namespace Go.Proofs.YtnbklmmampdbfaaGreatDoor
open Go Go.RowKit
set_option maxRecDepth 20000

/-- Is this a range? -/
def isR (l h : Int) : Bool := decide (0 ≤ l) && decide (l ≤ h) && decide (h ≤ 65535)
theorem isR_iff (l h : Int) : isR l h = true ↔ 0 ≤ l ∧ l ≤ h ∧ h ≤ 65535 := by simp [isR, and_assoc]
/-- The pieces of a range, none where there is no range. -/
def ran (l h : Int) : List (Nat × Nat) := if isR l h then rng h.toNat l.toNat else []
def ranE (l h : Int) : Int := if isR l h then 0 else 10

theorem rng_le (h n : Nat) : (rng h n).length ≤ h + 1 - n := by
  refine rng_induct h (fun n => (rng h n).length ≤ h + 1 - n) (fun n hn => by rw [rng_nil hn]; exact Nat.zero_le _) (fun n hn ih => ?_) n
  rw [rng_cons hn, List.length_cons]
  have := rng_next hn
  omega

set_option maxHeartbeats 1000000 in
theorem range_ok (l h : Nat) (hl : l ≤ h) (hh : h ≤ 65535) (w : World) :
    Calls Tryz.prog 52 #[.int .i64 (l : Int), .int .i64 (h : Int)] w fun e w' => ∃ u, e = .returned (.tuple #[u, .int .i64 0]) ∧ w'.ownsRow w.heap.size 102 2 u (rng h l).length (pcells (rng h l)) ∧ Below w.heap.size w w' := by
  have GR : Hid (∀ n : Nat, n ≤ h → ∀ W, Calls Tryz.prog 80 #[.int .i64 (n : Int), .int .i64 (h : Int)] W fun e w' => e = .returned (.agg (pv (n : Int) ((gr n h : Nat) : Int))) ∧ Below W.heap.size W w') := fun n hn W => greatest_any n h hn hh W
  have HL : Hid ((rng h l).length ≤ 65536) := Nat.le_trans (rng_le h l) (by omega)
  have q0 : ¬ h < l := by omega
  have q1 : ¬ (65535 : Int) < (h : Int) := by omega
  have q2 : ¬ (l : Int) < 0 := by omega
  go_enter Tryz.func52, Tryz.ntmps52
  go_wp2_with fail
  clear q0 q1 q2
  go_loopw [0, 6] (fun i out wr => ∃ n : Nat, n ≤ h + 1 ∧ i = .int .i64 (n : Int) ∧ ∃ P : List (Nat × Nat), P ++ rng h n = rng h l ∧ wr.ownsRow w.heap.size 102 2 out P.length (pcells P) ∧ Below w.heap.size w wr) (fun i _ _ => h + 1 - (intOf i).toNat)
  case atStart => exact ⟨l, by omega, rfl, [], rfl, World.ownsRow_nil _ _ _ _, Below.refl _ _⟩
  case round =>
    obtain ⟨n, hn, rfl, P, hP, hown, hb⟩ := hrel
    have HP : Hid (P ++ rng h n = rng h l) := hP
    have hPl : P.length ≤ 65536 := by
      have := HL.out
      rw [← hP, List.length_append] at this
      omega
    have OWN : Hid (wr.ownsRow w.heap.size 102 2 u6 P.length (pcells P)) := hown
    clear hP hown
    by_cases hlt : n ≤ h
    · have D : Hid (∀ W, Calls Tryz.prog 80 #[.int .i64 (n : Int), .int .i64 (h : Int)] W fun e w' => e = .returned (.agg (pv (n : Int) ((gr n h : Nat) : Int))) ∧ Below W.heap.size W w') := GR.out n hlt
      have hg16 := (gr_is n h hlt).1
      have HC : Hid (rng h n = (n, gr n h) :: rng h (n + sz (gr n h))) := rng_cons hlt
      have hnx := rng_next hlt
      obtain ⟨b, hbb⟩ : ∃ b, b = gr n h := ⟨_, rfl⟩
      rw [← hbb] at D hg16 HC hnx
      have D2 : Hid (∀ W, Calls Tryz.prog 81 #[.agg (pv (n : Int) (b : Int))] W fun e w' => e = .returned (.int .i64 ((sz b : Nat) : Int)) ∧ Below W.heap.size W w') := fun W => size_any (n : Int) b hg16 W
      obtain ⟨s, hs⟩ : ∃ s, s = sz b := ⟨_, rfl⟩
      rw [← hs] at D2 HC hnx
      clear hbb hs
      go_wp2_with fail
      refine (D.out _).mono ?_
      rintro e w1 ⟨rfl, hb1⟩
      have B1 := hb.trans (hb1.mono hb.size)
      have OWN1 : Hid (w1.ownsRow w.heap.size 102 2 u6 P.length (pcells P)) := own_below OWN.out hb1
      clear OWN hb hb1
      go_wp2_with (first
        | (refine wl_loadP rfl _ rfl w1.heap.size 0 rfl _ _ _ (n : Int) (b : Int) (heap_new _ _ _ rfl) (own_piece _ _) ?_)
        | (refine wl_buildP rfl _ rfl (n : Int) (b : Int) rfl ?_)
        | (at_builtin; refine of_stopped ?_))
      unfold Stopped
      have a0 := heap_past (w1.alloc (.cells (pv (n : Int) (b : Int)) 102)) (.cells (pv (n : Int) (b : Int)) 102) _ _ (heap_new w1 (.cells (pv (n : Int) (b : Int)) 102) _ rfl)
      have a1 := heap_new (w1.alloc (.cells (pv (n : Int) (b : Int)) 102)) (.cells (pv (n : Int) (b : Int)) 102) (w1.heap.size + 1) (by simp)
      have OWN3 : Hid (((w1.alloc (.cells (pv (n : Int) (b : Int)) 102)).alloc (.cells (pv (n : Int) (b : Int)) 102)).ownsRow w.heap.size 102 2 u6 P.length (pcells P)) := (OWN1.out.alloc _).alloc _
      have B3 := (B1.alloc B1.size (.cells (pv (n : Int) (b : Int)) 102)).alloc (by simp; have := B1.size; omega) (.cells (pv (n : Int) (b : Int)) 102)
      refine wl_appendP rfl _ _ rfl w.heap.size _ P (n, b) rfl OWN3.out _ 1 rfl a1 (by omega) (by simp; have := B1.size; omega) ?_
      intro v' w2 hown2 hgr
      have B4 : Below w.heap.size w w2 := B3.grown hgr (by simp; have := B1.size; omega) (fun q hq => (OWN3.out.lt q hq).1)
      have g2 : w2.heap[w1.heap.size]? = some (.cells (pv (n : Int) (b : Int)) 102 (0, 0)) := by
        rw [hgr.block w1.heap.size (by simp; omega) (fun hq => absurd (OWN1.out.lt w1.heap.size hq.symm).2 (by omega))]
        exact a0
      obtain ⟨o2, cap2, rfl⟩ := own_slice hown2
      obtain ⟨v2, hv2⟩ : ∃ v2, v2 = Value.slice o2 (P ++ [(n, b)]).length cap2 := ⟨_, rfl⟩
      rw [← hv2] at hown2 ⊢
      have OWN4 : Hid (w2.ownsRow w.heap.size 102 2 v2 (P ++ [(n, b)]).length (pcells (P ++ [(n, b)]))) := hown2
      simp only [Act.put, List.setIfInBounds_toArray, List.set_cons_succ, List.set_cons_zero]
      clear hown2 hgr a0 a1 OWN3 B3 B1 OWN1 hv2
      go_wp2_with (first
        | (refine wl_loadP rfl _ rfl w1.heap.size 0 rfl _ _ _ (n : Int) (b : Int) g2 (own_piece _ _) ?_))
      refine (D2.out _).mono ?_
      rintro e w3 ⟨rfl, hb3⟩
      go_wp2_with fail
      go_roundw
      case rel => exact ⟨n + s, by omega, by go_num, P ++ [(n, b)], by rw [List.append_assoc, List.singleton_append, ← HC.out]; exact HP.out, own_below OWN4.out hb3, B4.trans (hb3.mono B4.size)⟩
      case measure => simp [intOf]; omega
    · have HE : Hid (rng h n = []) := rng_nil (by omega)
      go_wp2_with fail
      go_ret2
      refine ⟨u6, rfl, ?_, hb⟩
      have := HP.out
      rw [HE.out, List.append_nil] at this
      rw [← this]; exact OWN.out

set_option maxHeartbeats 400000 in
theorem range_no (l h : Int) (hl : ¬ (0 ≤ l ∧ l ≤ h ∧ h ≤ 65535)) (w : World) :
    Calls Tryz.prog 52 #[.int .i64 l, .int .i64 h] w fun e w' => e = .returned (.tuple #[.slice none 0 0, .int .i64 10]) ∧ w' = w := by
  by_cases h0 : l < 0
  · go_enter Tryz.func52, Tryz.ntmps52
    go_wp2_with fail
    go_ret2
    exact ⟨rfl, rfl⟩
  · by_cases h1 : l > h
    · go_enter Tryz.func52, Tryz.ntmps52
      go_wp2_with fail
      go_ret2
      exact ⟨rfl, rfl⟩
    · have h2 : h > 65535 := by omega
      clear hl
      go_enter Tryz.func52, Tryz.ntmps52
      go_wp2_with fail
      go_ret2
      exact ⟨rfl, rfl⟩

theorem range_any (l h : Int) (w : World) :
    Calls Tryz.prog 52 #[.int .i64 l, .int .i64 h] w fun e w' => ∃ u, e = .returned (.tuple #[u, .int .i64 (ranE l h)]) ∧ w'.ownsRow w.heap.size 102 2 u (ran l h).length (pcells (ran l h)) ∧ Below w.heap.size w w' := by
  unfold ran ranE
  by_cases c : isR l h = true
  · simp only [c, if_true]
    have := (isR_iff l h).1 c
    obtain ⟨l', rfl⟩ := Int.eq_ofNat_of_zero_le this.1
    obtain ⟨h', rfl⟩ := Int.eq_ofNat_of_zero_le (Int.le_trans this.1 this.2.1)
    exact range_ok l' h' (by omega) (by omega) w
  · have c' : isR l h = false := by simpa using c
    simp only [c', Bool.false_eq_true, if_false]
    refine (range_no l h (fun hc => c ((isR_iff l h).2 hc)) w).mono ?_
    rintro e w' ⟨rfl, rfl⟩
    exact ⟨_, rfl, World.ownsRow_nil _ _ _ _, Below.refl _ _⟩
end Go.Proofs.YtnbklmmampdbfaaGreatDoor
namespace Go.Proofs.YtnbklmmampdbfaaGreatDoor
open Go Go.RowKit
set_option maxRecDepth 20000

set_option maxHeartbeats 400000 in
theorem many_any (b : Nat) (hb : b ≤ 16) (w : World) :
    Calls Tryz.prog 57 #[.int .i64 (b : Int)] w fun e w' => e = .returned (.int .i64 ((sz b : Nat) : Int)) ∧ w' = w := by
  have H0 : Hid (∀ k, k ≤ 16 → b ≤ k → 2 ^ (k - b) ≤ 65536) := fun k h1 h2 => Nat.le_trans (Nat.pow_le_pow_right (by decide) (show k - b ≤ 16 by omega)) (by decide)
  go_enter Tryz.func57, Tryz.ntmps57
  go_wp2_with fail
  go_loop [3, 4] (fun n k => ∃ i : Nat, b ≤ i ∧ i ≤ 16 ∧ k = .int .i64 (i : Int) ∧ n = .int .i64 ((2 ^ (i - b) : Nat) : Int)) (fun _ k => 16 - (intOf k).toNat)
  case atStart => exact ⟨b, Nat.le_refl _, hb, rfl, by rw [Nat.sub_self]; rfl⟩
  case round =>
    obtain ⟨i, h1, h2, rfl, rfl⟩ := hrel
    have hp := H0.out i h2 h1
    have HS : Hid (2 ^ (i + 1 - b) = 2 ^ (i - b) * 2) := by
      show 2 ^ (i + 1 - b) = 2 ^ (i - b) * 2
      rw [show i + 1 - b = (i - b) + 1 by omega, Nat.pow_succ]
    have HE : Hid (i = 16 → 2 ^ (i - b) = sz b) := fun e => by subst e; rfl
    obtain ⟨x, hx⟩ : ∃ x, x = 2 ^ (i - b) := ⟨_, rfl⟩
    rw [← hx] at hp HS HE ⊢
    clear hx
    by_cases hlt : i < 16
    · go_wp2_with fail
      go_round
      case rel => exact ⟨i + 1, by omega, by omega, by go_num, by rw [HS.out]; go_num⟩
      case measure => simp [intOf]; omega
    · go_wp2_with fail
      go_ret
      exact ⟨ret_int (by rw [HE.out (by omega)]), rfl⟩

set_option maxHeartbeats 1000000 in
theorem rrange_ok (l h : Nat) (hl : l ≤ h) (hh : h ≤ 65535) (w : World) :
    Calls Tryz.prog 33 #[.int .i64 (l : Int), .int .i64 (h : Int)] w fun e w' => ∃ u, e = .returned (.tuple #[u, .int .i64 0]) ∧ w'.ownsRow w.heap.size 102 2 u (rng h l).length (pcells (rng h l)) ∧ Below w.heap.size w w' := by
  have MY : Hid (∀ b : Nat, b ≤ 16 → ∀ W, Calls Tryz.prog 57 #[.int .i64 (b : Int)] W fun e w' => e = .returned (.int .i64 ((sz b : Nat) : Int)) ∧ w' = W) := fun b hb W => many_any b hb W
  have HL : Hid ((rng h l).length ≤ 65536) := Nat.le_trans (rng_le h l) (by omega)
  have q0 : ¬ h < l := by omega
  have q1 : ¬ (65535 : Int) < (h : Int) := by omega
  have q2 : ¬ (l : Int) < 0 := by omega
  have n0 := heap_new w (.cells #[] 102) _ rfl
  go_enter Tryz.func33, Tryz.ntmps33
  go_wp2_with fail
  clear q0 q1 q2
  go_loopw [6, 7] (fun out i wr => ∃ n : Nat, n ≤ h + 1 ∧ i = .int .i64 (n : Int) ∧ ∃ P : List (Nat × Nat), P ++ rng h n = rng h l ∧ wr.ownsRow w.heap.size 102 2 out P.length (pcells P) ∧ Below w.heap.size w wr) (fun _ i _ => h + 1 - (intOf i).toNat)
  case atStart => exact ⟨l, by omega, rfl, [], rfl, ⟨rfl, Or.inr ⟨w.heap.size, 0, #[], rfl, Nat.le_refl _, n0, Nat.le_refl _, by decide, rfl, rfl⟩⟩, (Below.refl _ _).alloc (Nat.le_refl _) _⟩
  case round =>
    obtain ⟨n, hn, rfl, P, hP, hown, hb⟩ := hrel
    have HP : Hid (P ++ rng h n = rng h l) := hP
    have hPl : P.length ≤ 65536 := by
      have := HL.out
      rw [← hP, List.length_append] at this
      omega
    have OWN : Hid (wr.ownsRow w.heap.size 102 2 u6 P.length (pcells P)) := hown
    clear hP hown n0
    obtain ⟨wo, hwo⟩ : ∃ wo : World, wo = wr := ⟨_, rfl⟩
    rw [← hwo] at hb OWN ⊢
    clear hwo
    by_cases hlt : n ≤ h
    · go_wp2_with fail
      go_loop [8] (fun x => ∃ b : Nat, b ≤ 16 ∧ x = .int .i64 (b : Int) ∧ ∀ c, c < b → okP n h c = false) (fun x => 16 - (intOf x).toNat)
      case atStart => exact ⟨0, Nat.zero_le _, rfl, fun c hc => by omega⟩
      case round =>
        obtain ⟨b, hb16, rfl, hno⟩ := hrel
        have D : Hid (∀ W, Calls Tryz.prog 57 #[.int .i64 (b : Int)] W fun e w' => e = .returned (.int .i64 ((sz b : Nat) : Int)) ∧ w' = W) := MY.out b hb16
        have HNO : Hid (∀ c, c < b → okP n h c = false) := hno
        have hs0 := sz_pos b
        have hs1 := sz_le b
        obtain ⟨s, hs⟩ : ∃ s, s = sz b := ⟨_, rfl⟩
        rw [← hs] at D hs0 hs1
        have HS : Hid (s = sz b) := hs
        have HB : Hid (b = 16 → s = 1) := fun e => by subst e; rw [HS.out, sz_16]
        clear hno hs
        by_cases hm : (n : Int) % (s : Int) = 0
        · by_cases hf : (n : Int) + (s : Int) > (h : Int) + 1
          · have hb15 : b < 16 := by
              rcases Nat.lt_or_ge b 16 with h16 | h16
              · exact h16
              · have := HB.out (by omega)
                omega
            go_wp2_with (first
              | (go_at_call 57; refine (D.out _).mono ?_; rintro e w' ⟨rfl, rfl⟩))
            go_round
            case rel => exact ⟨b + 1, by omega, by go_num, next_no HNO.out (by rw [← HS.out]; exact .inr (by omega))⟩
            case measure => simp [intOf]; omega
          · have HG : Hid (gr n h = b) := gr_eq hlt ⟨hb16, (okP_iff _ _ _).2 (by rw [← HS.out]; exact ⟨by omega, by omega⟩), HNO.out⟩
            have HC : Hid (rng h n = (n, b) :: rng h (n + s)) := by
              have := rng_cons hlt
              rw [HG.out, ← HS.out] at this
              exact this
            go_wp2_with (first
              | (go_at_call 57; refine (D.out _).mono ?_; rintro e w' ⟨rfl, hw'⟩; rw [hw']; clear hw' w')
              | (refine wl_buildP rfl _ rfl (n : Int) (b : Int) rfl ?_)
              | (at_builtin; refine of_stopped ?_))
            unfold Stopped
            have hws := hb.size
            have a1 := heap_new wo (.cells (pv (n : Int) (b : Int)) 102) _ rfl
            have OWN3 : Hid ((wo.alloc (.cells (pv (n : Int) (b : Int)) 102)).ownsRow w.heap.size 102 2 u6 P.length (pcells P)) := OWN.out.alloc _
            have B3 := hb.alloc hb.size (.cells (pv (n : Int) (b : Int)) 102)
            refine wl_appendP rfl _ _ rfl w.heap.size _ P (n, b) rfl OWN3.out _ 1 rfl a1 (by omega) (by simp; omega) ?_
            intro v' w2 hown2 hgr
            have B4 : Below w.heap.size w w2 := B3.grown hgr (by simp; omega) (fun q hq => (OWN3.out.lt q hq).1)
            have OWN4 : Hid (w2.ownsRow w.heap.size 102 2 v' (P ++ [(n, b)]).length (pcells (P ++ [(n, b)]))) := hown2
            simp only [Act.put, List.setIfInBounds_toArray, List.set_cons_succ, List.set_cons_zero]
            clear hown2 hgr a1 OWN3 B3 OWN
            go_wp2_with (first
              | (go_at_call 57; refine (D.out _).mono ?_; rintro e w' ⟨rfl, rfl⟩))
            go_roundw
            case rel => exact ⟨n + s, by omega, by go_num, P ++ [(n, b)], by rw [List.append_assoc, List.singleton_append, ← HC.out]; exact HP.out, OWN4.out, B4⟩
            case measure => simp [intOf]; omega
        · have hb15 : b < 16 := by
            rcases Nat.lt_or_ge b 16 with h16 | h16
            · exact h16
            · have := HB.out (by omega)
              subst this
              omega
          go_wp2_with (first
            | (go_at_call 57; refine (D.out _).mono ?_; rintro e w' ⟨rfl, rfl⟩))
          go_round
          case rel => exact ⟨b + 1, by omega, by go_num, next_no HNO.out (by rw [← HS.out]; exact .inl (by omega))⟩
          case measure => simp [intOf]; omega
    · have HE : Hid (rng h n = []) := rng_nil (by omega)
      go_wp2_with fail
      go_ret2
      refine ⟨u6, rfl, ?_, hb⟩
      have := HP.out
      rw [HE.out, List.append_nil] at this
      rw [← this]; exact OWN.out

set_option maxHeartbeats 400000 in
theorem rrange_no (l h : Int) (hl : ¬ (0 ≤ l ∧ l ≤ h ∧ h ≤ 65535)) (w : World) :
    Calls Tryz.prog 33 #[.int .i64 l, .int .i64 h] w fun e w' => e = .returned (.tuple #[.slice none 0 0, .int .i64 10]) ∧ w' = w := by
  by_cases h0 : l < 0
  · go_enter Tryz.func33, Tryz.ntmps33
    go_wp2_with fail
    go_ret2
    exact ⟨rfl, rfl⟩
  · by_cases h1 : h > 65535
    · go_enter Tryz.func33, Tryz.ntmps33
      go_wp2_with fail
      go_ret2
      exact ⟨rfl, rfl⟩
    · have h2 : l > h := by omega
      clear hl
      go_enter Tryz.func33, Tryz.ntmps33
      go_wp2_with fail
      go_ret2
      exact ⟨rfl, rfl⟩

theorem rrange_any (l h : Int) (w : World) :
    Calls Tryz.prog 33 #[.int .i64 l, .int .i64 h] w fun e w' => ∃ u, e = .returned (.tuple #[u, .int .i64 (ranE l h)]) ∧ w'.ownsRow w.heap.size 102 2 u (ran l h).length (pcells (ran l h)) ∧ Below w.heap.size w w' := by
  unfold ran ranE
  by_cases c : isR l h = true
  · simp only [c, if_true]
    have := (isR_iff l h).1 c
    obtain ⟨l', rfl⟩ := Int.eq_ofNat_of_zero_le this.1
    obtain ⟨h', rfl⟩ := Int.eq_ofNat_of_zero_le (Int.le_trans this.1 this.2.1)
    exact rrange_ok l' h' (by omega) (by omega) w
  · have c' : isR l h = false := by simpa using c
    simp only [c', Bool.false_eq_true, if_false]
    refine (rrange_no l h (fun hc => c ((isR_iff l h).2 hc)) w).mono ?_
    rintro e w' ⟨rfl, rfl⟩
    exact ⟨_, rfl, World.ownsRow_nil _ _ _ _, Below.refl _ _⟩
end Go.Proofs.YtnbklmmampdbfaaGreatDoor
namespace Go.Proofs.YtnbklmmampdbfaaGreatDoor
open Go Go.RowKit
set_option maxRecDepth 20000

theorem load_num (w : World) (g k : Nat) (cs : Array Value) (t : TypeId) (fr : Nat × Nat) (n : Int) (hg : w.heap[g]? = some (.cells cs t fr)) (hc : cs[k]? = some (.int .i64 n)) :
    (loadVar 3 ⟨g, k, none⟩).run Tryz.prog w = .ok (.int .i64 n) w := by
  have hagg : (isAgg 3).run Tryz.prog w = .ok false w := by kernel_rfl
  have h1 : w.cell? ⟨g, k, none⟩ = some (.int .i64 n) := by rw [cell_of_row w g k cs t fr hg, hc]
  simp [loadVar, Sem.run_bind, hagg, h1]
theorem qlN {W : World} {ops : Array Oper} {Q : Act → Prop} {rest : List Oper} {o : Oper} {a : Act} (hw : Region.wanted o (yielded ops a.tmps) = true) (x : Operand) (ho : o.op = .load 3 x)
    (g k : Nat) (hx : a.eval x = .pointer (some ⟨g, k, none⟩)) (cs : Array Value) (t : TypeId) (fr : Nat × Nat) (n : Int) (hg : W.heap[g]? = some (.cells cs t fr)) (hc : cs[k]? = some (.int .i64 n))
    (h : wpQuiet Tryz.prog ops (fun w' => ∃ u : Later W, w' = u.world) Q rest (a.put o.dst (.int .i64 n))) : wpQuiet Tryz.prog ops (fun w' => ∃ u : Later W, w' = u.world) Q (o :: rest) a := by
  refine BigFrame.wpQuiet_want hw fun K hK => ⟨.int .i64 n, fun w hC => ?_, hK _ h⟩
  unfold Oper.quietAt execOp
  simp only [ho, hx, Instr.loadAt, Instr.sureAddr, Sem.run_bind, Sem.run_pure, Result.andThen_ok, load_num w g k cs t fr n (later_block hg w hC) hc]
  exact ⟨rfl, rfl⟩
theorem Calls.later_same {P : Program} {f : FuncId} {args : Array Value} {W : World} {u : Later W} {v : Value}
    (h : Calls P f args u.world fun e w' => e = .returned v ∧ w' = u.world) : Calls P f args u.world fun e w'' => e = .returned v ∧ ∃ u' : Later W, w'' = u'.world :=
  h.mono fun _ _ ⟨he, hb⟩ => ⟨he, u, hb⟩

end Go.Proofs.YtnbklmmampdbfaaGreatDoor
namespace Go.Proofs.YtnbklmmampdbfaaGreatDoor
open Go Go.RowKit
set_option maxRecDepth 20000

theorem hbit_in (A : List Int) (k j : Nat) (hk : k < 13) (hj : j < 8) : bitB A ((8 * k + j : Nat) : Int) = (A.getD k 0 / 2 ^ (7 - j) % 2 == 1) := by
  unfold bitB byteAt
  rw [decide_eq_true (by omega), Bool.true_and, show (((8 * k + j : Nat) : Int) / 8).toNat = k by omega, show (7 - ((8 * k + j : Nat) : Int) % 8).toNat = 7 - j by omega]

theorem hbyte_eq (x y : Int) (hx : 0 ≤ x ∧ x < 256) (hy : 0 ≤ y ∧ y < 256) (h : ∀ j, j < 8 → (x / 2 ^ (7 - j) % 2 == 1) = (y / 2 ^ (7 - j) % 2 == 1)) : x = y := by
  have g : ∀ j, j < 8 → x / 2 ^ (7 - j) % 2 = y / 2 ^ (7 - j) % 2 := fun j hj => by
    have := h j hj
    rw [Bool.eq_iff_iff, beq_iff_eq, beq_iff_eq] at this
    have a1 : x / 2 ^ (7 - j) % 2 = 0 ∨ x / 2 ^ (7 - j) % 2 = 1 := by omega
    have a2 : y / 2 ^ (7 - j) % 2 = 0 ∨ y / 2 ^ (7 - j) % 2 = 1 := by omega
    omega
  have g0 := g 0 (by decide)
  have g1 := g 1 (by decide)
  have g2 := g 2 (by decide)
  have g3 := g 3 (by decide)
  have g4 := g 4 (by decide)
  have g5 := g 5 (by decide)
  have g6 := g 6 (by decide)
  have g7 := g 7 (by decide)
  simp only [Nat.sub_zero, Nat.reduceSub, Int.reducePow, Int.pow_zero, Int.ediv_one] at g0 g1 g2 g3 g4 g5 g6 g7
  omega
set_option maxHeartbeats 400000 in
theorem refWith_no (L : List Int) (f v : Int) (w : World) (hf : f < 0 ∨ 5 ≤ f) :
    Calls Tryz.prog 58 #[.agg (hv L), .int .i64 f, .int .u32 v] w fun e w' => e = .returned (.tuple #[.agg (hv Z13), .int .i64 1]) ∧ Below w.heap.size w w' := by
  go_enter Tryz.func58, Tryz.ntmps58
  go_wp2_with (first
    | (go_at_call 86; refine (first_no _ _ hf).mono ?_; rintro e w' ⟨rfl, rfl⟩)
    | (refine wl_store26 rfl _ _ rfl (w.heap.size + 1) Z13 rfl rfl _ (heap_new _ _ _ (by simp)) rfl rfl _ (setRow_new _ _ _ _ _ (by simp)) ?_))
  refine ret26e (p := 6) (u := 7) rfl rfl (w.heap.size + 1) rfl Z13 rfl (heap_new _ _ _ (by simp)) _ rfl ⟨rfl, ?_⟩
  exact ((Below.refl _ _).alloc (Nat.le_refl _) _).alloc (by simp) _

/-- The byte of a number that lies in the header's bytes, and so its bits. -/
theorem getN_byte (L : List Int) (hL : Byt L) (at0 : Nat) : ∀ (s m : Nat), m < s → getN L at0 s / 2 ^ (8 * (s - 1 - m)) % 256 = L.getD (at0 + m) 0
  | 0, _, h => by omega
  | s + 1, m, h => by
    have hb := hL.2 (at0 + s)
    by_cases e : m = s
    · subst e
      simp only [getN, Nat.add_sub_cancel, Nat.sub_self, Nat.mul_zero, Int.pow_zero, Int.ediv_one]
      omega
    · have ih := getN_byte L hL at0 s m (by omega)
      have e1 : 8 * (s + 1 - 1 - m) = 8 + 8 * (s - 1 - m) := by omega
      rw [e1, Int.pow_add, ← Int.ediv_ediv_of_nonneg (by decide)]
      have e2 : getN L at0 (s + 1) / 2 ^ 8 = getN L at0 s := by
        simp only [getN]
        omega
      rw [e2]; exact ih

theorem bit_of_byte (g : Int) (t j : Nat) (hj : j < 8) : g / 2 ^ (8 * t) % 256 / 2 ^ (7 - j) % 2 = g / 2 ^ (8 * t + (7 - j)) % 2 := by
  rw [Int.pow_add, ← Int.ediv_ediv_of_nonneg (Int.pow_nonneg (by decide))]
  generalize g / 2 ^ (8 * t) = y
  rcases (show j = 0 ∨ j = 1 ∨ j = 2 ∨ j = 3 ∨ j = 4 ∨ j = 5 ∨ j = 6 ∨ j = 7 by omega) with e | e | e | e | e | e | e | e <;> subst e <;> simp only [Nat.sub_zero, Nat.sub_self, Nat.reduceSub, Int.reducePow, Int.pow_zero, Int.ediv_one] <;> omega

theorem getN_bit (L : List Int) (hL : Byt L) (at0 size i : Nat) (hs : at0 + size ≤ 13) (hi : i < 8 * size) :
    bitB L ((8 * at0 + i : Nat) : Int) = (getN L at0 size / 2 ^ (8 * size - 1 - i) % 2 == 1) := by
  have e : 8 * at0 + i = 8 * (at0 + i / 8) + i % 8 := by omega
  rw [e, hbit_in L (at0 + i / 8) (i % 8) (by omega) (by omega), ← getN_byte L hL at0 size (i / 8) (by omega), bit_of_byte _ _ _ (by omega), show 8 * (size - 1 - i / 8) + (7 - i % 8) = 8 * size - 1 - i by omega]

theorem getN_half (g : Int) (W i : Nat) (hi : i < W) : g / 2 ^ (W - i) * 2 + g / 2 ^ (W - 1 - i) % 2 = g / 2 ^ (W - 1 - i) := by
  have e : W - i = (W - 1 - i) + 1 := by omega
  rw [e, Int.pow_succ, ← Int.ediv_ediv_of_nonneg (Int.pow_nonneg (by decide))]
  generalize g / 2 ^ (W - 1 - i) = y
  omega

end Go.Proofs.YtnbklmmampdbfaaGreatDoor
namespace Go.Proofs.YtnbklmmampdbfaaGreatDoor
open Go Go.RowKit
set_option maxRecDepth 20000

set_option maxHeartbeats 400000 in
theorem field_no (L : List Int) (f : Int) (w : World) (hf : f < 0 ∨ 5 ≤ f) :
    Calls Tryz.prog 90 #[.agg (hv L), .int .i64 f] w fun e w' => e = .returned (.tuple #[.int .u32 0, .int .i64 1]) ∧ Below w.heap.size w w' := by
  go_enter Tryz.func90, Tryz.ntmps90
  go_wp2_with (go_at_call 82; refine (place_no _ _ hf).mono ?_; rintro e w' ⟨rfl, rfl⟩)
  go_ret2
  exact ⟨rfl, (Below.refl _ _).alloc (Nat.le_refl _) _⟩

set_option maxHeartbeats 1000000 in
theorem field_core (L : List Int) (hL : Byt L) (f : Int) (at0 size : Nat) (w : World) (hs : at0 + size ≤ 13) (hs4 : size ≤ 4) (hP : Places w)
    (hpl : ∀ W, Places W → Calls Tryz.prog 82 #[.int .i64 f] W fun e w' => e = .returned (.tuple #[.int .i64 (8 * (at0 : Int)), .int .i64 (8 * (size : Int)), .int .i64 0]) ∧ Below W.heap.size W w') :
    Calls Tryz.prog 90 #[.agg (hv L), .int .i64 f] w fun e w' => e = .returned (.tuple #[.int .u32 (getN L at0 size), .int .i64 0]) ∧ Below w.heap.size w w' := by
  have hl := hL.1
  have hp := hP.pos
  have HP : Hid (∀ W, Places W → Calls Tryz.prog 82 #[.int .i64 f] W fun e w' => e = .returned (.tuple #[.int .i64 (8 * (at0 : Int)), .int .i64 (8 * (size : Int)), .int .i64 0]) ∧ Below W.heap.size W w') := hpl
  clear hpl
  go_enter Tryz.func90, Tryz.ntmps90
  go_wp2_with fail
  refine (HP.out _ (hP.later hp ((Below.refl _ _).alloc (Nat.le_refl _) _))).mono ?_
  clear HP
  rintro e w1 ⟨rfl, hb1⟩
  have g1 : w1.heap[w.heap.size]? = some (.cells (hv L) 31 (0, 0)) := by rw [hb1.block _ (by simp)]; exact heap_new _ _ _ rfl
  have hB1 : Below w.heap.size w w1 := ((Below.refl _ _).alloc (Nat.le_refl _) _).trans (hb1.mono (by simp))
  clear hP hb1
  go_wp2_with (refine wl_load26 rfl _ rfl w.heap.size rfl L g1 hl ?_)
  refine (get_any L hL at0 size w1 hs hs4).mono ?_
  rintro e w2 ⟨rfl, rfl⟩
  go_wp2_with fail
  go_ret2
  exact ⟨rfl, hB1.alloc hB1.size _⟩

theorem field_ok (L : List Int) (hL : Byt L) (f : Int) (w : World) (h0 : 0 ≤ f) (h1 : f < 5) (hP : Places w) :
    Calls Tryz.prog 90 #[.agg (hv L), .int .i64 f] w fun e w' => e = .returned (.tuple #[.int .u32 (getN L (atOf f) (sizeOfF f)), .int .i64 0]) ∧ Below w.heap.size w w' := by
  obtain ⟨_, _, a1, a2, _⟩ := place_facts f h0 h1
  exact field_core L hL f (atOf f) (sizeOfF f) w a1 a2 hP (place_at f h0 h1)

theorem first_at (f : Int) (h0 : 0 ≤ f) (h1 : f < 5) (W : World) : Calls Tryz.prog 86 #[.int .i64 f] W fun e w' => e = .returned (.int .i64 ((8 * atOf f : Nat) : Int)) ∧ w' = W := by
  have h := first_in f W h0 h1
  rw [(place_facts f h0 h1).1] at h
  rw [Int.natCast_mul]; exact h
theorem width_at (f : Int) (h0 : 0 ≤ f) (h1 : f < 5) (W : World) : Calls Tryz.prog 87 #[.int .i64 f] W fun e w' => e = .returned (.int .i64 ((8 * sizeOfF f : Nat) : Int)) ∧ w' = W := by
  have h := width_in f W h0 h1
  rw [(place_facts f h0 h1).2.1] at h
  rw [Int.natCast_mul]; exact h

theorem putN_at (L : List Int) (at0 size : Nat) (v : Int) : ∀ n, at0 + n ≤ L.length → ∀ k, (putN L at0 size v n).getD k 0 = if at0 ≤ k ∧ k < at0 + n then v / 2 ^ (8 * (size - 1 - (k - at0))) % 256 else L.getD k 0
  | 0, _, k => by rw [if_neg (by omega)]; rfl
  | n + 1, h, k => by
    show ((putN L at0 size v n).set (at0 + n) _).getD k 0 = _
    rw [getD_set _ _ _ _ (by rw [putN_length]; omega)]
    by_cases e : at0 + n = k
    · rw [if_pos e, if_pos (by omega), show k - at0 = n by omega]
    · rw [if_neg e, putN_at L at0 size v n (by omega) k]
      by_cases e2 : at0 ≤ k ∧ k < at0 + n
      · rw [if_pos e2, if_pos (by omega)]
      · rw [if_neg e2, if_neg (by omega)]
theorem putN_byt (L : List Int) (hL : Byt L) (at0 size : Nat) (v : Int) (hs : at0 + size ≤ 13) : Byt (putN L at0 size v size) := by
  refine ⟨by rw [putN_length]; exact hL.1, fun k => ?_⟩
  rw [putN_at L at0 size v size (by rw [hL.1]; exact hs) k]
  split
  · exact ⟨Int.emod_nonneg _ (by decide), Int.emod_lt_of_pos _ (by decide)⟩
  · exact hL.2 k

theorem head_ext (A B : List Int) (hA : Byt A) (hB : Byt B) (h : ∀ k : Nat, k < 104 → bitB A (k : Int) = bitB B (k : Int)) : A = B :=
  bt_ext A B hA hB fun i hi => by rw [← bitB_bt A i hi, ← bitB_bt B i hi]; exact h i hi

theorem withB_put (L : List Int) (hL : Byt L) (at0 size v : Nat) (hs : at0 + size ≤ 13) : withB L (8 * at0) (8 * size) v (8 * size) = putN L at0 size (v : Int) size := by
  obtain ⟨h1, h2⟩ := withB_bit L hL (8 * at0) (8 * size) v (by omega) (8 * size) (by omega)
  refine head_ext _ _ h1 (putN_byt L hL at0 size v hs) fun k hk => ?_
  rw [h2 k hk]
  have e : k = 8 * (k / 8) + k % 8 := by omega
  have hb := hbit_in (putN L at0 size (v : Int) size) (k / 8) (k % 8) (by omega) (by omega)
  rw [← e, putN_at L at0 size v size (by rw [hL.1]; exact hs)] at hb
  rw [hb]
  by_cases c : 8 * at0 + 8 * size - 8 * size ≤ k ∧ k < 8 * at0 + 8 * size
  · rw [if_pos c, if_pos (by omega), bit_of_byte _ _ _ (by omega), show 8 * (size - 1 - (k / 8 - at0)) + (7 - k % 8) = 8 * at0 + 8 * size - 1 - k by omega, Bool.eq_iff_iff, beq_iff_eq, beq_iff_eq]
    have hc : (v : Int) / 2 ^ (8 * at0 + 8 * size - 1 - k) = ((v / 2 ^ (8 * at0 + 8 * size - 1 - k) : Nat) : Int) := by simp
    rw [hc]; omega
  · rw [if_neg c, if_neg (by omega)]
    have hb2 := hbit_in L (k / 8) (k % 8) (by omega) (by omega)
    rw [← e] at hb2
    exact hb2

theorem refWith_ok (L : List Int) (hL : Byt L) (f v : Int) (w : World) (h0 : 0 ≤ f) (h1 : f < 5) (hv0 : 0 ≤ v) (hv1 : v < 4294967296) (hvw : v < 2 ^ (8 * sizeOfF f)) :
    Calls Tryz.prog 58 #[.agg (hv L), .int .i64 f, .int .u32 v] w fun e w' => e = .returned (.tuple #[.agg (hv (putN L (atOf f) (sizeOfF f) v (sizeOfF f))), .int .i64 0]) ∧ Below w.heap.size w w' := by
  obtain ⟨n, rfl⟩ := Int.eq_ofNat_of_zero_le hv0
  obtain ⟨_, _, a1, a2, a3⟩ := place_facts f h0 h1
  refine (refWith_core L hL f (8 * atOf f) (8 * sizeOfF f) n w (by omega) (by omega) (by omega) (first_at f h0 h1) (width_at f h0 h1)).mono fun e w' h => ⟨?_, h.2.2⟩
  rw [h.1 (by exact_mod_cast hvw), withB_put L hL _ _ _ a1]
theorem refWith_big (L : List Int) (hL : Byt L) (f v : Int) (w : World) (h0 : 0 ≤ f) (h1 : f < 5) (hv0 : 0 ≤ v) (hv1 : v < 4294967296) (hvw : ¬ v < 2 ^ (8 * sizeOfF f)) :
    Calls Tryz.prog 58 #[.agg (hv L), .int .i64 f, .int .u32 v] w fun e w' => e = .returned (.tuple #[.agg (hv Z13), .int .i64 10]) ∧ Below w.heap.size w w' := by
  obtain ⟨n, rfl⟩ := Int.eq_ofNat_of_zero_le hv0
  obtain ⟨_, _, a1, a2, a3⟩ := place_facts f h0 h1
  refine (refWith_core L hL f (8 * atOf f) (8 * sizeOfF f) n w (by omega) (by omega) (by omega) (first_at f h0 h1) (width_at f h0 h1)).mono fun e w' h => ⟨?_, h.2.2⟩
  exact h.2.1 (fun h => hvw (by exact_mod_cast h))
end Go.Proofs.YtnbklmmampdbfaaGreatDoor
