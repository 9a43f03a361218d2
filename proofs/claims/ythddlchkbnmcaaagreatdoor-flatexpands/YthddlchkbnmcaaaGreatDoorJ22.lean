import Derived.Test.YthddlchkbnmcaaaGreatDoorJ16
import Derived.Test.YthddlchkbnmcaaaGreatDoorJ17
namespace Go.Proofs.YthddlchkbnmcaaaGreatDoor
open Go Go.RowKit
set_option maxRecDepth 20000

section
variable {P : Program} {ops : Array Oper} {md : Region.Mode} {C : World → Prop}

/-- Each operation behind the first n + 1 waits for one of those from n on. -/
def chainW (md : Region.Mode) (ops : Array Oper) (n : Nat) : Bool :=
  (List.range ops.size).all fun t => decide (t ≤ n) || (List.range t).any fun s => decide (n ≤ s) && Region.waitsFor md ops t s

theorem waits_tail {n : Nat} {listed : Array Bool} (hs : Region.sinkB md ops n = true) (hc : chainW md ops n = true) (inv : HeadInv md ops n listed) :
    ∀ (d i : Nat), n - i = d → i < n → listed.getD i true = false → ∀ t, n ≤ t → t ∉ Region.ready md ops listed := by
  intro d
  induction d using Nat.strongRecOn with
  | _ d ih =>
    intro i hd hi hun t ht hr
    obtain ⟨_, ot, hot, hall⟩ := mem_ready.1 hr
    have htlt : t < ops.size := (Array.getElem?_eq_some_iff.1 hot).1
    by_cases htn : t = n
    · subst htn
      have h1 := List.all_eq_true.1 hs i (List.mem_range.2 hi)
      obtain ⟨j, hj, hj2⟩ := List.any_eq_true.1 h1
      simp only [Bool.and_eq_true, decide_eq_true_eq] at hj2
      obtain ⟨oj, hoj, e, he, hb, hon⟩ := Region.waitsFor_spec hj2.2
      have hjle : j ≤ t := by have := List.mem_range.1 hj; omega
      by_cases hjt : j = t
      · subst hjt
        have : oj = ot := Option.some.inj (hoj.symm.trans hot)
        subst this
        have h2 := hall e he hb
        rw [hon, getD_both hun] at h2
        cases h2
      · cases hl : listed.getD j false with
        | true =>
          have h2 := inv.closed j oj hoj hl e he hb
          rw [hon, getD_both hun] at h2
          cases h2
        | false =>
          have hjs : j < listed.size := by rw [inv.size]; omega
          exact ih (t - j) (by omega) j rfl (by omega) (getD_in hjs hl) t (Nat.le_refl _) hr
    · have h1 := List.all_eq_true.1 hc t (List.mem_range.2 htlt)
      simp only [Bool.or_eq_true, decide_eq_true_eq] at h1
      rcases h1 with h1 | h1
      · omega
      · obtain ⟨s, hs1, hs2⟩ := List.any_eq_true.1 h1
        simp only [Bool.and_eq_true, decide_eq_true_eq] at hs2
        have hst := List.mem_range.1 hs1
        obtain ⟨o', ho', e, he, hb, hon⟩ := Region.waitsFor_spec hs2.2
        have : o' = ot := Option.some.inj (ho'.symm.trans hot)
        subst this
        have h2 := hall e he hb
        rw [hon, getD_both (inv.tail s hs2.1 (by omega))] at h2
        cases h2

theorem anyH_first {n i : Nat} {oi : Oper} {v : Value} {L : Array Bool → Act → Prop} (hi : ops[i]? = some oi) (hsel : ∀ (j : Nat) (o : Oper) cs b, ops[j]? = some o → o.op ≠ .select cs b)
    (hs : Region.sinkB md ops n = true) (hc : chainW md ops n = true) (hin : i < n)
    (hdone : ∀ listed a, L listed a → ∀ j ∈ Region.ready md ops listed, n ≤ j) :
    ∀ (f : Nat) (listed : Array Bool) (a : Act), HeadInv md ops n listed →
      (∀ j oj, ops[j]? = some oj → j ≠ i → listed.getD j true = false → (∀ e ∈ oj.after, Region.binds md e = true → e.on ≠ i) → oi.apart ops oj = true) →
      i ∈ Region.ready md ops listed → YieldsIn P ops C oi v a →
      anyL P md ops C n L f (listed.setIfInBounds i true) (a.put oi.dst v) → anyL P md ops C n L (f + 1) listed a := by
  intro f
  induction f with
  | zero =>
    intro listed a inv _ hr hy H
    have hun := (mem_ready.1 hr).1
    refine ⟨fun h => (by rw [h] at hr; cases hr), fun j hj => ?_⟩
    have hjn : j < n := by
      rcases Nat.lt_or_ge j n with h | h
      · exact h
      · exact absurd hj (waits_tail hs hc inv _ i rfl hin hun j h)
    refine ⟨hjn, ?_⟩
    by_cases hji : j = i
    · subst hji; exact hy.qOp hi H
    · have := hdone _ _ H j (ready_mono hj hji)
      omega
  | succ f ih =>
    intro listed a inv hfree hr hy H
    have hun := (mem_ready.1 hr).1
    refine ⟨fun h => (by rw [h] at hr; cases hr), fun j hj => ?_⟩
    have hjn : j < n := by
      rcases Nat.lt_or_ge j n with h | h
      · exact h
      · exact absurd hj (waits_tail hs hc inv _ i rfl hin hun j h)
    refine ⟨hjn, ?_⟩
    by_cases hji : j = i
    · subst hji; exact hy.qOp hi H
    · have h1 := (H.2 j (ready_mono hj hji)).2
      obtain ⟨hjun, oj, hoj, hall⟩ := mem_ready.1 hj
      have hnot : ∀ e ∈ oj.after, Region.binds md e = true → e.on ≠ i := fun e he hb heq => by
        have h1 := hall e he hb
        rw [heq, getD_both hun] at h1
        cases h1
      have h2 := qOp_put hoj (hfree j oj hoj hji hjun hnot) (fun cs b => hsel i oi cs b hi) (fun cs b => hsel j oj cs b hoj) hy h1
      have hfree' : ∀ k ok, ops[k]? = some ok → k ≠ i → (listed.setIfInBounds j true).getD k true = false →
          (∀ e ∈ ok.after, Region.binds md e = true → e.on ≠ i) → oi.apart ops ok = true := fun k ok hk hki hun hno => by
        refine hfree k ok hk hki ?_ hno
        by_cases hjk : j = k
        · subst hjk; exact hjun
        · rw [getD_set_ne true hjk] at hun; exact hun
      refine qOp_mono (fun a' h3 => ih (listed.setIfInBounds j true) a' (inv.set hj hjn) hfree' (ready_mono hr (Ne.symm hji)) h3.1 ?_) h2
      rw [Array.setIfInBounds_comm _ _ hji]
      exact h3.2

def headB (md : Region.Mode) (ops : Array Oper) (L0 : Array Bool) : Nat → Nat → Array Bool → Bool
  | 0, _, listed => decide (listed = L0)
  | f + 1, k, listed => (Region.ready md ops listed).contains k && Region.free md ops listed k && headB md ops L0 f (k + 1) (listed.setIfInBounds k true)

theorem anyH_lex {n : Nat} {L0 : Array Bool} {Lq : Act → Prop} (hsel : Region.noSelect ops = true) (hs : Region.sinkB md ops n = true) (hc : chainW md ops n = true) (hd : ∀ j ∈ Region.ready md ops L0, n ≤ j) :
    ∀ (l : List Oper) (k : Nat) (listed : Array Bool) (a : Act), (∀ j, j < l.length → l[j]? = ops[k + j]?) → k + l.length = n → HeadInv md ops n listed →
    headB md ops L0 l.length k listed = true → wpQuiet P ops C Lq l a →
    anyL P md ops C n (fun listed' a' => listed' = L0 ∧ Lq a') l.length listed a
  | [], k, listed, a, _, hk, _, hB, h => ⟨by simpa [headB] using hB, h⟩
  | o :: l, k, listed, a, hl, hk, inv, hB, h => by
    have h0 : ops[k]? = some o := by simpa using (hl 0 (by simp)).symm
    simp only [List.length_cons, headB, Bool.and_eq_true] at hB
    obtain ⟨⟨hr, hf⟩, hB'⟩ := hB
    have hkn : k < n := by simp only [List.length_cons] at hk; omega
    have hr' : k ∈ Region.ready md ops listed := by simpa using hr
    have hst : qOp P ops C k (wpQuiet P ops C Lq l) a := by unfold qOp; simp only [h0]; exact h
    obtain ⟨v, hy, hK⟩ := yieldsIn_of_qOp h0 hst
    exact anyH_first h0 (Region.noSelect_spec hsel) hs hc hkn (fun listed' a' hL => by rw [hL.1]; exact hd) l.length listed a inv (Region.free_spec h0 hf) hr' hy
      (anyH_lex hsel hs hc hd l (k + 1) _ _ (fun j hj => by have := hl (j + 1) (by simp; omega); simpa [Nat.add_assoc, Nat.add_comm 1 j] using this) (by simp only [List.length_cons] at hk; omega) (inv.set hr' hkn) hB' hK)
end

/-- A drawn region whose first n operations only read and call; what is left is asked of every order. -/
theorem wp_region_head {P : Program} {id : Nat} {Q : Exit → Act → World → Prop} {a : Act} {w : World} {l : List Oper} (n g : Nat) (L0 : Array Bool) (hm : P.follows .mixedOrders = true)
    (hsel : Region.noSelect l.toArray = true) (hs : Region.sinkB .any l.toArray n = true) (hc : chainW .any l.toArray n = true) (hd : (Region.ready .any l.toArray L0).all (fun j => decide (n ≤ j)) = true) (hB : headB .any l.toArray L0 n 0 (Array.replicate l.toArray.size false) = true) (hg : l.length = n + g)
    (h : wpQuiet P l.toArray (fun w' => ∃ u : Later w, w' = u.world) (fun a' => ∀ w', (∃ u : Later w, w' = u.world) → wpAny P .any l.toArray Q g L0 a' w') (l.take n) a) : (Code.region id l.toArray true).wp P Q a w := by
  have htl : (l.take n).length = n := by simp; omega
  have inv0 : HeadInv .any l.toArray n (Array.replicate l.toArray.size false) :=
    ⟨by simp, fun j oj _ hl => (by rw [getD_replicate_false] at hl; cases hl), fun t _ ht => getD_in (by simpa using ht) (getD_replicate_false _ _)⟩
  have H := anyH_lex (md := .any) (L0 := L0) hsel hs hc (fun j hj => of_decide_eq_true (List.all_eq_true.1 hd j hj)) (l.take n) 0 _ a (fun j hj => by
    have hj' : j < n := by rw [htl] at hj; exact hj
    simp [hj']) (by simpa using htl) inv0 (by rw [htl]; exact hB) h
  refine wp_region_any hm ?_
  have hC : (fun w' => ∃ u : Later w, w' = u.world) w.drew := ⟨⟨w.drew, (Below.refl _ _).drew⟩, rfl⟩
  have := any_of_head (Q' := Q) (g := g) (fun listed a' w' hw' hL => by rw [hL.1]; exact hL.2 w' hw') _ _ _ _ hC H
  rw [htl] at this
  rw [show l.toArray.size = n + g by simpa using hg]
  rw [show l.toArray.size = n + g by simpa using hg] at this
  exact this

/-- Two that reckon, then a store that waits for the first one alone. -/
theorem any_two {P : Program} {ops : Array Oper} {Q : Exit → Act → World → Prop} {a : Act} {w w' : World} {i0 i1 i2 : Nat} {o0 o1 o2 : Oper} {v0 v1 : Value} (L : Array Bool) (h0 : ops[i0]? = some o0) (h1 : ops[i1]? = some o1) (h2 : ops[i2]? = some o2)
    (r0 : Region.ready .any ops L = [i0, i1]) (r1 : Region.ready .any ops (L.setIfInBounds i0 true) = [i1, i2]) (r2 : Region.ready .any ops (L.setIfInBounds i1 true) = [i0]) (r3 : Region.ready .any ops ((L.setIfInBounds i0 true).setIfInBounds i1 true) = [i2])
    (r4 : Region.ready .any ops ((L.setIfInBounds i0 true).setIfInBounds i2 true) = [i1]) (r5 : Region.ready .any ops (((L.setIfInBounds i0 true).setIfInBounds i1 true).setIfInBounds i2 true) = []) (d1 : i1 ≠ i0) (d2 : i2 ≠ i1)
    (q0 : o0.guard = none) (q1 : o1.guard = none) (q2 : o2.guard = none) (q3 : o2.dst = none)
    (e0 : (execOp a.eval o0).run P w = .ok (.value v0) w) (e0' : (execOp (a.put o1.dst v1).eval o0).run P w = .ok (.value v0) w)
    (e1 : (execOp a.eval o1).run P w = .ok (.value v1) w) (e1a : (execOp (a.put o0.dst v0).eval o1).run P w = .ok (.value v1) w) (e1b : (execOp (a.put o0.dst v0).eval o1).run P w' = .ok (.value v1) w')
    (e2 : (execOp (a.put o0.dst v0).eval o2).run P w = .ok .skip w') (e2a : (execOp ((a.put o0.dst v0).put o1.dst v1).eval o2).run P w = .ok .skip w')
    (comm : (a.put o1.dst v1).put o0.dst v0 = (a.put o0.dst v0).put o1.dst v1)
    (h : Q .normal ((a.put o0.dst v0).put o1.dst v1) w') : wpAny P .any ops Q 3 L a w := by
  have pn : ∀ (b : Act) (v : Value), b.put none v = b := fun b v => rfl
  have fin : wpAny P .any ops Q 0 (((L.setIfInBounds i0 true).setIfInBounds i1 true).setIfInBounds i2 true) ((a.put o0.dst v0).put o1.dst v1) w' := ⟨r5, h⟩
  refine any_step [i0, i1] r0 (by simp) fun i hi => ?_
  simp only [List.mem_cons, List.not_mem_nil, or_false] at hi
  rcases hi with rfl | rfl
  · refine wpOp_value h0 q0 e0 (any_step [i1, i2] r1 (by simp) fun j hj => ?_)
    simp only [List.mem_cons, List.not_mem_nil, or_false] at hj
    rcases hj with rfl | rfl
    · refine wpOp_value h1 q1 e1a (any_step [i2] r3 (by simp) fun j hj => ?_)
      simp only [List.mem_cons, List.not_mem_nil, or_false] at hj
      subst hj
      refine wpOp_skip h2 q2 e2a ?_
      rw [q3, pn]
      exact fin
    · refine wpOp_skip h2 q2 e2 ?_
      rw [q3, pn]
      refine any_step [i1] r4 (by simp) fun j hj => ?_
      simp only [List.mem_cons, List.not_mem_nil, or_false] at hj
      subst hj
      refine wpOp_value h1 q1 e1b ?_
      rw [Array.setIfInBounds_comm _ _ d2]
      exact fin
  · refine wpOp_value h1 q1 e1 (any_step [i0] r2 (by simp) fun j hj => ?_)
    simp only [List.mem_cons, List.not_mem_nil, or_false] at hj
    subst hj
    refine wpOp_value h0 q0 e0' ?_
    rw [comm, Array.setIfInBounds_comm _ _ d1]
    refine any_step [i2] r3 (by simp) fun j hj => ?_
    simp only [List.mem_cons, List.not_mem_nil, or_false] at hj
    subst hj
    refine wpOp_skip h2 q2 e2a ?_
    rw [q3, pn]
    exact fin
theorem run_move (P : Program) (a : Act) (o : Oper) (w : World) (x : Operand) (v : Value) (ho : o.op = .move x) (hx : a.eval x = v) : (execOp a.eval o).run P w = .ok (.value v) w := by
  unfold execOp
  simp only [ho, Sem.run_pure, hx]
theorem run_extract (P : Program) (a : Act) (o : Oper) (w : World) (x : Operand) (i : Nat) (vs : Array Value) (v : Value) (ho : o.op = .extract x i) (hx : a.eval x = .tuple vs) (hv : vs[i]? = some v) : (execOp a.eval o).run P w = .ok (.value v) w := by
  unfold execOp
  simp [ho, hx, Instr.extract, hv]
end Go.Proofs.YthddlchkbnmcaaaGreatDoor
namespace Go.Proofs.YthddlchkbnmcaaaGreatDoor
open Go Go.RowKit
set_option maxRecDepth 20000

def own15_ops : List Oper := [
      { dst := some 48, op := .fieldAddr 129 (.tmp 5) 2, type := 0, pos := "reader.go:110", after := #[], guard := none },
      { dst := some 49, op := .load 127 (.tmp 48), type := 127, pos := "reader.go:110", after := #[{ on := 0, ground := .data }], guard := none },
      { dst := some 50, op := .move (.tmp 0), type := 120, pos := "reader.go:110", after := #[], guard := none },
      { dst := some 51, op := .call { callee := .value (.func 96), args := #[.tmp 50], argTypes := #[120] }, type := 89, pos := "reader.go:110", after := #[{ on := 2, ground := .data }], guard := none },
      { dst := some 52, op := .buildSlice 127 1 #[(0, .tmp 51)], type := 127, pos := "reader.go:110", after := #[{ on := 3, ground := .data }], guard := none },
      { dst := some 53, op := .call { callee := .builtin .append, args := #[.tmp 49, .tmp 52], argTypes := #[127, 127] }, type := 127, pos := "reader.go:110", after := #[{ on := 1, ground := .data }, { on := 4, ground := .data }, { on := 3, ground := .chain }], guard := none },
      { dst := some 54, op := .fieldAddr 129 (.tmp 5) 2, type := 0, pos := "reader.go:110", after := #[{ on := 0, ground := .phase }, { on := 1, ground := .phase }, { on := 2, ground := .phase }, { on := 3, ground := .phase }, { on := 4, ground := .phase }, { on := 5, ground := .phase }], guard := none },
      { dst := none, op := .store 127 (.tmp 54) (.tmp 53), type := 0, pos := "reader.go:110", after := #[{ on := 6, ground := .data }, { on := 5, ground := .data }, { on := 5, ground := .chain }, { on := 0, ground := .phase }, { on := 1, ground := .phase }, { on := 2, ground := .phase }, { on := 3, ground := .phase }, { on := 4, ground := .phase }, { on := 5, ground := .phase }], guard := none }]
set_option maxHeartbeats 2000000 in
theorem own15_region {id : Nat} {Q : Exit → Act → World → Prop} {a : Act} {w : World} (hs : 55 ≤ a.tmps.size) (g p : Nat) (h0 : a.eval (.tmp 0) = .pointer (some ⟨g, 0, none⟩)) (hp : a.eval (.tmp 5) = .pointer (some ⟨p, 0, none⟩))
    (cs : Array Value) (hcs : w.heap[p]? = some (.cells cs 129 (0, 0))) (v : Value) (hv : cs[2]? = some v) (hpg : p ≠ g)
    (F : List Fig) (B : Nat) (hown : w.ownsRow B 89 2 v F.length (gcells figV F)) (hF : F.length ≤ 1000) (hB : B ≤ w.heap.size) (hgB : g < B) (c : Fig) (D : World → Prop)
    (hcall : Calls Tryz.prog 96 #[.pointer (some ⟨g, 0, none⟩)] w.drew fun e w' => e = .returned (.agg (figV c)) ∧ w.drew.grownBy w' (some g) ∧ D w')
    (hK : ∀ a' w1 w3 v', (∃ y0 y1 y2 y3 y4 y5 y6, a' = (((((((a.put (some 48) y0).put (some 49) y1).put (some 50) y2).put (some 51) y3).put (some 52) y4).put (some 53) y5).put (some 54) y6)) → D w1 → w.grownBy w1 (some g) → (w1.alloc (.cells (figV c) 89)).grownBy w3 v.ownBlock → w3.ownsRow B 89 2 v' (F ++ [c]).length (gcells figV (F ++ [c])) → w3.heap[p]? = some (.cells cs 129 (0, 0)) →
      Q .normal a' (w3.setCell ⟨p, 2, none⟩ v')) : (Code.region id own15_ops.toArray true).wp Tryz.prog Q a w := by
  have hfa : ∀ W, (Instr.fieldAt 129 (.pointer (some ⟨p, 0, none⟩)) 2).run Tryz.prog W = .ok (.pointer (some ⟨p, 2, none⟩)) W := fun W => by simp [go_sem]
  have hcell : ∀ W : World, W.heap[p]? = some (.cells cs 129 (0, 0)) → W.cell? ⟨p, 2, none⟩ = some v := fun W hW => by rw [cell_of_row _ _ _ _ _ _ hW]; exact hv
  have hplt := (Array.getElem?_eq_some_iff.1 hcs).1
  have keep : ∀ w1, w.drew.grownBy w1 (some g) → w1.heap[p]? = some (.cells cs 129 (0, 0)) := fun w1 hg => (hg.block p hplt (by simp; omega)).trans hcs
  have hvp : v.ownBlock ≠ some p := fun hq => by
    obtain ⟨_, ⟨rfl, _⟩ | ⟨g', cap, cur, rfl, _, h2, _⟩⟩ := hown
    · simp [Value.ownBlock] at hq
    · simp only [Value.ownBlock, Option.some.injEq] at hq
      subst hq
      rw [hcs] at h2
      simp at h2
  refine region_cut (fun a a' w' => ∃ w1 w3 v', (∃ y0 y1 y2 y3 y4 y5 y6, a' = (((((((a.put (some 48) y0).put (some 49) y1).put (some 50) y2).put (some 51) y3).put (some 52) y4).put (some 53) y5).put (some 54) y6)) ∧ D w1 ∧ w.grownBy w1 (some g) ∧ (w1.alloc (.cells (figV c) 89)).grownBy w3 v.ownBlock ∧ w3.ownsRow B 89 2 v' (F ++ [c]).length (gcells figV (F ++ [c])) ∧ w3.heap[p]? = some (.cells cs 129 (0, 0)) ∧ w' = w3.setCell ⟨p, 2, none⟩ v') ?_ ?_
  case refine_2 =>
    rintro a' w' ⟨w1, w3, v', ha, h1, h2, h3, h4, h5, rfl⟩
    exact hK a' w1 w3 v' ha h1 h2 h3 h4 h5
  -- what is left behind the first five operations
  have tail : ∀ (b : Act) (w1 : World), (∃ y0 y1 y2 y3 y4, b = (((((a.put (some 48) y0).put (some 49) y1).put (some 50) y2).put (some 51) y3).put (some 52) y4)) → b.eval (.tmp 49) = v → b.eval (.tmp 52) = .slice (some ⟨w1.heap.size, 0, none⟩) 1 1 → b.eval (.tmp 5) = .pointer (some ⟨p, 0, none⟩) → b.tmps.size = a.tmps.size → w.drew.grownBy w1 (some g) → D w1 →
      wpAnyH Tryz.prog .any own15_ops.toArray (fun e a' w' => e = .normal ∧ ∃ w1 w3 v', (∃ y0 y1 y2 y3 y4 y5 y6, a' = (((((((a.put (some 48) y0).put (some 49) y1).put (some 50) y2).put (some 51) y3).put (some 52) y4).put (some 53) y5).put (some 54) y6)) ∧ D w1 ∧ w.grownBy w1 (some g) ∧ (w1.alloc (.cells (figV c) 89)).grownBy w3 v.ownBlock ∧ w3.ownsRow B 89 2 v' (F ++ [c]).length (gcells figV (F ++ [c])) ∧ w3.heap[p]? = some (.cells cs 129 (0, 0)) ∧ w' = w3.setCell ⟨p, 2, none⟩ v') (fun _ => True) 3 #[true, true, true, true, true, false, false, false] b (w1.alloc (.cells (figV c) 89)) := by
    rintro b w1 ⟨y0, y1, y2, y3, y4, hb⟩ e1 e4 e5 hbs hg1 hD
    have hown1 : (w1.alloc (.cells (figV c) 89)).ownsRow B 89 2 v F.length (gcells figV F) := (own_by (grown_trans (gb_drew w g) hg1) hgB hown).alloc _
    have hz1 := hg1.size
    rw [w_set_heap] at hz1
    refine wpAnyH_all (rs := [5]) (by kernel_rfl) (by decide) ?_
    intro i hi
    obtain rfl := List.mem_singleton.1 hi
    refine wpOp_of_list rfl ?_
    refine wl_appendE (E := FigE) FigOk figV rfl _ _ rfl B v F c (fig_fits _) e1 hown1 w1.heap.size 1 e4 (heap_new _ _ _ rfl) (by omega) (by simp; omega) ?_
    intro v' w3 hown3 hgr3 _
    have hp3 : w3.heap[p]? = some (.cells cs 129 (0, 0)) := (hgr3.block p (by simp; omega) (fun hq => hvp hq.symm)).trans (heap_past _ _ _ _ (keep w1 hg1))
    obtain ⟨o3, cap3, hv3⟩ := gown_slice hown3
    refine ⟨trivial, ?_⟩
    show wpAnyH Tryz.prog .any own15_ops.toArray _ _ 2 _ (b.put (some 53) v') w3
    have s5 : (b.put (some 53) v').eval (.tmp 5) = .pointer (some ⟨p, 0, none⟩) := by rw [eval_put _ _ _ _ (by omega), if_neg (by decide)]; exact e5
    have s6 : (b.put (some 53) v').eval (.tmp 53) = v' := by rw [eval_put _ _ _ _ (by omega), if_pos rfl]
    refine wpAnyH_all (rs := [6]) (by kernel_rfl) (by decide) ?_
    intro i hi
    obtain rfl := List.mem_singleton.1 hi
    refine wpOp_val rfl rfl (.pointer (some ⟨p, 2, none⟩)) (run_fieldOp rfl _ _ _ ((congrArg (fun y => (Instr.fieldAt 129 y 2).run Tryz.prog w3) s5).trans (hfa w3))) (some 54) rfl ?_
    refine ⟨trivial, ?_⟩
    refine wpAnyH_all (rs := [7]) (by kernel_rfl) (by decide) ?_
    intro i hi
    obtain rfl := List.mem_singleton.1 hi
    refine wpOp_skip0 (w' := w3.setCell ⟨p, 2, none⟩ v') rfl rfl ?_ rfl ?_
    · have s7 : ((b.put (some 53) v').put (some 54) (.pointer (some ⟨p, 2, none⟩))).eval (.tmp 54) = .pointer (some ⟨p, 2, none⟩) := by rw [eval_put _ _ _ _ (by rw [size_put]; omega), if_pos rfl]
      have s8 : ((b.put (some 53) v').put (some 54) (.pointer (some ⟨p, 2, none⟩))).eval (.tmp 53) = v' := by rw [eval_put _ _ _ _ (by rw [size_put]; omega), if_neg (by decide)]; exact s6
      have hst := store_cell (ty := 127) (fun W => Tryz.sizeOf127 W) w3 ⟨p, 2, none⟩ v' v ⟨o3, _, cap3, hv3⟩ (hcell w3 hp3) (tc_frozen hp3 rfl)
      exact run_storeOp rfl _ _ _ _ _ s7 s8 hst
    · refine ⟨trivial, wpAnyH_done (by kernel_rfl) ?_ _⟩
      refine ⟨rfl, w1, w3, v', ⟨y0, y1, y2, y3, y4, v', .pointer (some ⟨p, 2, none⟩), ?_⟩, hD, grown_trans (gb_drew w g) hg1, hgr3, hown3, hp3, rfl⟩
      rw [hb]
  have hQ : ∀ (d : Option Tmp) (x : Value) ch (b : Act) (W : World), (fun (e : Exit) (a' : Act) (w' : World) => e = .normal ∧ ∃ w1 w3 v', (∃ y0 y1 y2 y3 y4 y5 y6, a' = (((((((a.put (some 48) y0).put (some 49) y1).put (some 50) y2).put (some 51) y3).put (some 52) y4).put (some 53) y5).put (some 54) y6)) ∧ D w1 ∧ w.grownBy w1 (some g) ∧ (w1.alloc (.cells (figV c) 89)).grownBy w3 v.ownBlock ∧ w3.ownsRow B 89 2 v' (F ++ [c]).length (gcells figV (F ++ [c])) ∧ w3.heap[p]? = some (.cells cs 129 (0, 0)) ∧ w' = w3.setCell ⟨p, 2, none⟩ v') (.panic ch) (Act.put b d x) W → (fun (e : Exit) (a' : Act) (w' : World) => e = .normal ∧ ∃ w1 w3 v', (∃ y0 y1 y2 y3 y4 y5 y6, a' = (((((((a.put (some 48) y0).put (some 49) y1).put (some 50) y2).put (some 51) y3).put (some 52) y4).put (some 53) y5).put (some 54) y6)) ∧ D w1 ∧ w.grownBy w1 (some g) ∧ (w1.alloc (.cells (figV c) 89)).grownBy w3 v.ownBlock ∧ w3.ownsRow B 89 2 v' (F ++ [c]).length (gcells figV (F ++ [c])) ∧ w3.heap[p]? = some (.cells cs 129 (0, 0)) ∧ w' = w3.setCell ⟨p, 2, none⟩ v') (.panic ch) b W := fun _ _ _ _ _ h => absurd h.1 (by simp)
  refine region_beginS (fun _ => True) 8 rfl (by kernel_rfl) ?_
  refine wpAnyH_take (i := 0) (v := .pointer (some ⟨p, 2, none⟩)) rfl (by kernel_rfl) (by kernel_rfl) (by kernel_rfl) (fun c b W => hQ _ _ c b W) (.inl ⟨rfl, fun W _ => run_fieldOp rfl _ _ _ ((congrArg (fun y => (Instr.fieldAt 129 y 2).run Tryz.prog W) hp).trans (hfa W))⟩) trivial ?_
  have a1 : (a.put (some 48) (.pointer (some ⟨p, 2, none⟩))).eval (.tmp 0) = .pointer (some ⟨g, 0, none⟩) := by rw [eval_put _ _ _ _ (by omega), if_neg (by decide)]; exact h0
  refine wpAnyH_take (i := 2) (v := .pointer (some ⟨g, 0, none⟩)) rfl (by kernel_rfl) (by kernel_rfl) (by kernel_rfl) (fun c b W => hQ _ _ c b W) (.inl ⟨rfl, fun W _ => run_moveOp rfl _ _ _ a1⟩) trivial ?_
  have hs2 : ((a.put (some 48) (.pointer (some ⟨p, 2, none⟩))).put (some 50) (.pointer (some ⟨g, 0, none⟩))).tmps.size = a.tmps.size := by rw [size_put, size_put]
  have hcF : ∀ vs W, (callFunc 96 vs).run Tryz.prog W = .ok (.enter 96 vs) W := fun vs W => by have hf := Tryz.func96; simp [go_sem]
  obtain ⟨a2, ha2⟩ : ∃ a2, a2 = ((a.put (some 48) (.pointer (some ⟨p, 2, none⟩))).put (some 50) (.pointer (some ⟨g, 0, none⟩))) := ⟨_, rfl⟩
  have x0 : a2.eval (.tmp 48) = .pointer (some ⟨p, 2, none⟩) := by rw [ha2, eval_put _ _ _ _ (by rw [size_put]; omega), if_neg (by decide), eval_put _ _ _ _ (by omega), if_pos rfl]
  have x2 : a2.eval (.tmp 50) = .pointer (some ⟨g, 0, none⟩) := by rw [ha2, eval_put _ _ _ _ (by rw [size_put]; omega), if_pos rfl]
  have xb : a2.eval (.tmp 5) = .pointer (some ⟨p, 0, none⟩) := by rw [ha2, eval_put _ _ _ _ (by rw [size_put]; omega), if_neg (by decide), eval_put _ _ _ _ (by omega), if_neg (by decide)]; exact hp
  have xs : a2.tmps.size = a.tmps.size := by rw [ha2]; exact hs2
  have comm : ∀ (k j : Nat) (b : Act) (y z : Value), k ≠ j → (b.put (some k) y).put (some j) z = (b.put (some j) z).put (some k) y := fun k j b y z hkj => by
    simp only [Act.put]
    congr 1
    exact Array.setIfInBounds_comm _ _ hkj
  show wpAnyH Tryz.prog .any own15_ops.toArray _ _ 6 _ ((a.put (some 48) (.pointer (some ⟨p, 2, none⟩))).put (some 50) (.pointer (some ⟨g, 0, none⟩))) w.drew
  rw [← ha2]
  have hg0 : w.drew.grownBy w.drew (some g) := gb_refl _ _
  refine wpAnyH_all (rs := [1, 3]) (by kernel_rfl) (by decide) ?_
  intro i hi
  rcases List.mem_cons.1 hi with rfl | hi
  · refine wpOp_val rfl rfl v (run_loadOp rfl _ _ _ _ x0 (load_cell (e := 89) Tryz.underlying127 _ _ _ (hcell _ (keep _ hg0)))) (some 49) rfl ⟨trivial, ?_⟩
    refine wpAnyH_all (rs := [3]) (by kernel_rfl) (by decide) ?_
    intro i hi
    obtain rfl := List.mem_singleton.1 hi
    refine wpOp_callQ rfl rfl 96 #[.pointer (some ⟨g, 0, none⟩)] (run_callOp rfl hcF _ _ _ (by rw [eval_put _ _ _ _ (by omega), if_neg (by decide)]; exact x2)) _ hcall (some 51) rfl ?_ (fun ch w' h => absurd h.1 (by simp)) (fun w' h => absurd h.1 (by simp))
    rintro u w1 ⟨hu, hg1, hD⟩
    obtain rfl : u = .agg (figV c) := by simpa using hu
    refine ⟨trivial, ?_⟩
    refine wpAnyH_all (rs := [4]) (by kernel_rfl) (by decide) ?_
    intro i hi
    obtain rfl := List.mem_singleton.1 hi
    refine wpOp_of_list rfl ?_
    refine wl_buildE (E := FigE) FigOk rfl _ rfl (figV c) rfl (by rw [eval_put _ _ _ _ (by rw [size_put]; omega), if_pos rfl]) ?_
    refine ⟨trivial, ?_⟩
    refine (show wpAnyH Tryz.prog .any own15_ops.toArray _ _ 3 _ (((a2.put (some 49) v).put (some 51) (.agg (figV c))).put (some 52) (.slice (some ⟨w1.heap.size, 0, none⟩) 1 1)) _ from tail (((a2.put (some 49) v).put (some 51) (.agg (figV c))).put (some 52) (.slice (some ⟨w1.heap.size, 0, none⟩) 1 1)) w1 ⟨.pointer (some ⟨p, 2, none⟩), v, .pointer (some ⟨g, 0, none⟩), .agg (figV c), .slice (some ⟨w1.heap.size, 0, none⟩) 1 1, ?_⟩ ?_ ?_ ?_ ?_ hg1 hD)
    · rw [ha2, comm 50 49 _ _ _ (by decide)]
    · rw [eval_put _ _ _ _ (by rw [size_put, size_put]; omega), if_neg (by decide), eval_put _ _ _ _ (by rw [size_put]; omega), if_neg (by decide), eval_put _ _ _ _ (by omega), if_pos rfl]
    · rw [eval_put _ _ _ _ (by rw [size_put, size_put]; omega), if_pos rfl]
    · rw [eval_put _ _ _ _ (by rw [size_put, size_put]; omega), if_neg (by decide), eval_put _ _ _ _ (by rw [size_put]; omega), if_neg (by decide), eval_put _ _ _ _ (by omega), if_neg (by decide)]; exact xb
    · rw [size_put, size_put, size_put]; exact xs
  · obtain rfl := List.mem_singleton.1 hi
    refine wpOp_callQ rfl rfl 96 #[.pointer (some ⟨g, 0, none⟩)] (run_callOp rfl hcF _ _ _ x2) _ hcall (some 51) rfl ?_ (fun ch w' h => absurd h.1 (by simp)) (fun w' h => absurd h.1 (by simp))
    rintro u w1 ⟨hu, hg1, hD⟩
    obtain rfl : u = .agg (figV c) := by simpa using hu
    refine ⟨trivial, ?_⟩
    refine wpAnyH_all (rs := [1, 4]) (by kernel_rfl) (by decide) ?_
    intro i hi
    rcases List.mem_cons.1 hi with rfl | hi
    · refine wpOp_val rfl rfl v (run_loadOp rfl _ _ _ _ (by rw [eval_put _ _ _ _ (by omega), if_neg (by decide)]; exact x0) (load_cell (e := 89) Tryz.underlying127 _ _ _ (hcell _ (keep _ hg1)))) (some 49) rfl ⟨trivial, ?_⟩
      refine wpAnyH_all (rs := [4]) (by kernel_rfl) (by decide) ?_
      intro i hi
      obtain rfl := List.mem_singleton.1 hi
      refine wpOp_of_list rfl ?_
      refine wl_buildE (E := FigE) FigOk rfl _ rfl (figV c) rfl (by rw [eval_put _ _ _ _ (by rw [size_put]; omega), if_neg (by decide), eval_put _ _ _ _ (by omega), if_pos rfl]) ?_
      refine ⟨trivial, ?_⟩
      refine (show wpAnyH Tryz.prog .any own15_ops.toArray _ _ 3 _ (((a2.put (some 51) (.agg (figV c))).put (some 49) v).put (some 52) (.slice (some ⟨w1.heap.size, 0, none⟩) 1 1)) _ from tail (((a2.put (some 51) (.agg (figV c))).put (some 49) v).put (some 52) (.slice (some ⟨w1.heap.size, 0, none⟩) 1 1)) w1 ⟨.pointer (some ⟨p, 2, none⟩), v, .pointer (some ⟨g, 0, none⟩), .agg (figV c), .slice (some ⟨w1.heap.size, 0, none⟩) 1 1, ?_⟩ ?_ ?_ ?_ ?_ hg1 hD)
      · rw [comm 51 49 _ _ _ (by decide), ha2, comm 50 49 _ _ _ (by decide)]
      · rw [eval_put _ _ _ _ (by rw [size_put, size_put]; omega), if_neg (by decide), eval_put _ _ _ _ (by rw [size_put]; omega), if_pos rfl]
      · rw [eval_put _ _ _ _ (by rw [size_put, size_put]; omega), if_pos rfl]
      · rw [eval_put _ _ _ _ (by rw [size_put, size_put]; omega), if_neg (by decide), eval_put _ _ _ _ (by rw [size_put]; omega), if_neg (by decide), eval_put _ _ _ _ (by omega), if_neg (by decide)]; exact xb
      · rw [size_put, size_put, size_put]; exact xs
    · obtain rfl := List.mem_singleton.1 hi
      refine wpOp_of_list rfl ?_
      refine wl_buildE (E := FigE) FigOk rfl _ rfl (figV c) rfl (by rw [eval_put _ _ _ _ (by omega), if_pos rfl]) ?_
      refine ⟨trivial, ?_⟩
      show wpAnyH Tryz.prog .any own15_ops.toArray _ _ 4 _ ((a2.put (some 51) (.agg (figV c))).put (some 52) (.slice (some ⟨w1.heap.size, 0, none⟩) 1 1)) _
      refine wpAnyH_all (rs := [1]) (by kernel_rfl) (by decide) ?_
      intro i hi
      obtain rfl := List.mem_singleton.1 hi
      refine wpOp_val rfl rfl v (run_loadOp rfl _ _ _ _ (by rw [eval_put _ _ _ _ (by rw [size_put]; omega), if_neg (by decide), eval_put _ _ _ _ (by omega), if_neg (by decide)]; exact x0) (load_cell (e := 89) Tryz.underlying127 _ _ _ (hcell _ (heap_past _ _ _ _ (keep _ hg1))))) (some 49) rfl ⟨trivial, ?_⟩
      refine (show wpAnyH Tryz.prog .any own15_ops.toArray _ _ 3 _ (((a2.put (some 51) (.agg (figV c))).put (some 52) (.slice (some ⟨w1.heap.size, 0, none⟩) 1 1)).put (some 49) v) _ from tail (((a2.put (some 51) (.agg (figV c))).put (some 52) (.slice (some ⟨w1.heap.size, 0, none⟩) 1 1)).put (some 49) v) w1 ⟨.pointer (some ⟨p, 2, none⟩), v, .pointer (some ⟨g, 0, none⟩), .agg (figV c), .slice (some ⟨w1.heap.size, 0, none⟩) 1 1, ?_⟩ ?_ ?_ ?_ ?_ hg1 hD)
      · rw [comm 52 49 _ _ _ (by decide), comm 51 49 _ _ _ (by decide), ha2, comm 50 49 _ _ _ (by decide)]
      · rw [eval_put _ _ _ _ (by rw [size_put, size_put]; omega), if_pos rfl]
      · rw [eval_put _ _ _ _ (by rw [size_put, size_put]; omega), if_neg (by decide), eval_put _ _ _ _ (by rw [size_put]; omega), if_pos rfl]
      · rw [eval_put _ _ _ _ (by rw [size_put, size_put]; omega), if_neg (by decide), eval_put _ _ _ _ (by rw [size_put]; omega), if_neg (by decide), eval_put _ _ _ _ (by omega), if_neg (by decide)]; exact xb
      · rw [size_put, size_put, size_put]; exact xs

set_option maxHeartbeats 2000000 in
theorem own15_panics {id : Nat} {Q : Exit → Act → World → Prop} {a : Act} {w : World} (hs : 55 ≤ a.tmps.size) (g p : Nat) (h0 : a.eval (.tmp 0) = .pointer (some ⟨g, 0, none⟩)) (hp : a.eval (.tmp 5) = .pointer (some ⟨p, 0, none⟩))
    (cs : Array Value) (hcs : w.heap[p]? = some (.cells cs 129 (0, 0))) (v : Value) (hv : cs[2]? = some v)
    (ch : List PanicEntry) (D : World → Prop) (hcall : Calls Tryz.prog 96 #[.pointer (some ⟨g, 0, none⟩)] w.drew fun e w' => e = .panicked ch ∧ D w')
    (hK : ∀ a' w', a'.defers = a.defers → D w' → Q (.panic ch) a' w') : (Code.region id own15_ops.toArray true).wp Tryz.prog Q a w := by
  have hfa : ∀ W, (Instr.fieldAt 129 (.pointer (some ⟨p, 0, none⟩)) 2).run Tryz.prog W = .ok (.pointer (some ⟨p, 2, none⟩)) W := fun W => by simp [go_sem]
  have hcell : w.drew.cell? ⟨p, 2, none⟩ = some v := by rw [cell_of_row _ _ _ _ _ _ (show w.drew.heap[p]? = _ from hcs)]; exact hv
  refine Code.wp_mono (Q := fun e a' w' => e = .panic ch ∧ a'.defers = a.defers ∧ D w') (by rintro e a' w' ⟨rfl, hd, h⟩; exact hK a' w' hd h) ?_
  refine region_beginS (fun _ => True) 8 rfl (by kernel_rfl) ?_
  refine wpAnyH_take (i := 0) (v := .pointer (some ⟨p, 2, none⟩)) rfl (by kernel_rfl) (by kernel_rfl) (by kernel_rfl) (fun _ _ _ h => ⟨h.1, h.2.1, h.2.2⟩) (.inl ⟨rfl, fun W _ => run_fieldOp rfl _ _ _ ((congrArg (fun y => (Instr.fieldAt 129 y 2).run Tryz.prog W) hp).trans (hfa W))⟩) trivial ?_
  have a1 : (a.put (some 48) (.pointer (some ⟨p, 2, none⟩))).eval (.tmp 0) = .pointer (some ⟨g, 0, none⟩) := by rw [eval_put _ _ _ _ (by omega), if_neg (by decide)]; exact h0
  refine wpAnyH_take (i := 2) (v := .pointer (some ⟨g, 0, none⟩)) rfl (by kernel_rfl) (by kernel_rfl) (by kernel_rfl) (fun _ _ _ h => ⟨h.1, h.2.1, h.2.2⟩) (.inl ⟨rfl, fun W _ => run_moveOp rfl _ _ _ a1⟩) trivial ?_
  have hs2 : ((a.put (some 48) (.pointer (some ⟨p, 2, none⟩))).put (some 50) (.pointer (some ⟨g, 0, none⟩))).tmps.size = a.tmps.size := by rw [size_put, size_put]
  have hcF : ∀ vs W, (callFunc 96 vs).run Tryz.prog W = .ok (.enter 96 vs) W := fun vs W => by have hf := Tryz.func96; simp [go_sem]
  obtain ⟨a2, ha2⟩ : ∃ a2, a2 = ((a.put (some 48) (.pointer (some ⟨p, 2, none⟩))).put (some 50) (.pointer (some ⟨g, 0, none⟩))) := ⟨_, rfl⟩
  have x0 : a2.eval (.tmp 48) = .pointer (some ⟨p, 2, none⟩) := by rw [ha2, eval_put _ _ _ _ (by rw [size_put]; omega), if_neg (by decide), eval_put _ _ _ _ (by omega), if_pos rfl]
  have x2 : a2.eval (.tmp 50) = .pointer (some ⟨g, 0, none⟩) := by rw [ha2, eval_put _ _ _ _ (by rw [size_put]; omega), if_pos rfl]
  have xs : a2.tmps.size = a.tmps.size := by rw [ha2]; exact hs2
  show wpAnyH Tryz.prog .any own15_ops.toArray _ _ 6 _ ((a.put (some 48) (.pointer (some ⟨p, 2, none⟩))).put (some 50) (.pointer (some ⟨g, 0, none⟩))) w.drew
  rw [← ha2]
  refine wpAnyH_all (rs := [1, 3]) (by kernel_rfl) (by decide) ?_
  intro i hi
  rcases List.mem_cons.1 hi with rfl | hi
  · refine wpOp_val rfl rfl v (run_loadOp rfl _ _ _ _ x0 (load_cell (e := 89) Tryz.underlying127 _ _ _ hcell)) (some 49) rfl ⟨trivial, ?_⟩
    refine wpAnyH_all (rs := [3]) (by kernel_rfl) (by decide) ?_
    intro i hi
    obtain rfl := List.mem_singleton.1 hi
    refine wpOp_callQ rfl rfl 96 #[.pointer (some ⟨g, 0, none⟩)] (run_callOp rfl hcF _ _ _ (by rw [eval_put _ _ _ _ (by omega), if_neg (by decide)]; exact x2)) _ hcall (some 51) rfl (fun v w' h => absurd h.1 (by simp)) (fun ch' w' h => ⟨by rw [Ending.panicked.inj h.1], by rw [ha2]; rfl, h.2⟩) (fun w' h => absurd h.1 (by simp))
  · obtain rfl := List.mem_singleton.1 hi
    refine wpOp_callQ rfl rfl 96 #[.pointer (some ⟨g, 0, none⟩)] (run_callOp rfl hcF _ _ _ x2) _ hcall (some 51) rfl (fun v w' h => absurd h.1 (by simp)) (fun ch' w' h => ⟨by rw [Ending.panicked.inj h.1], by rw [ha2]; rfl, h.2⟩) (fun w' h => absurd h.1 (by simp))
end Go.Proofs.YthddlchkbnmcaaaGreatDoor
