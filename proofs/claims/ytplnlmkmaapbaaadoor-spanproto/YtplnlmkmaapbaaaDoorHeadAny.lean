import Derived.Test.YtplnlmkmaapbaaaDoorTwo
namespace Go.Proofs.YtplnlmkmaapbaaaDoor
open Go Go.RowKit

section
variable {P : Program} {ops : Array Oper} {md : Region.Mode} {C : World → Prop}

/-- Each operation behind the first n + 1 waits for one of those from n on. -/
def chainW (md : Region.Mode) (ops : Array Oper) (n : Nat) : Bool :=
  (List.range ops.size).all fun t => decide (t ≤ n) || (List.range t).any fun s => decide (n ≤ s) && Region.waitsFor md ops t s

theorem waits_tail {n : Nat} {listed : Array Bool} (hs : Region.sinkB md ops n = true) (hc : chainW md ops n = true) (inv : HeadInv md ops n listed) :
    ∀ (d i : Nat), n - i = d → i < n → listed.getD i true = false → ∀ t, n ≤ t → t ∉ Region.ready md ops listed := by
  intro d
  induction d using Nat.strongRecOn with
  | _ d ih =>
    intro i hd hi hun t ht hr
    obtain ⟨_, ot, hot, hall⟩ := mem_ready.1 hr
    have htlt : t < ops.size := (Array.getElem?_eq_some_iff.1 hot).1
    by_cases htn : t = n
    · subst htn
      have h1 := List.all_eq_true.1 hs i (List.mem_range.2 hi)
      obtain ⟨j, hj, hj2⟩ := List.any_eq_true.1 h1
      simp only [Bool.and_eq_true, decide_eq_true_eq] at hj2
      obtain ⟨oj, hoj, e, he, hb, hon⟩ := Region.waitsFor_spec hj2.2
      have hjle : j ≤ t := by have := List.mem_range.1 hj; omega
      by_cases hjt : j = t
      · subst hjt
        have : oj = ot := Option.some.inj (hoj.symm.trans hot)
        subst this
        have h2 := hall e he hb
        rw [hon, getD_both hun] at h2
        cases h2
      · cases hl : listed.getD j false with
        | true =>
          have h2 := inv.closed j oj hoj hl e he hb
          rw [hon, getD_both hun] at h2
          cases h2
        | false =>
          have hjs : j < listed.size := by rw [inv.size]; omega
          exact ih (t - j) (by omega) j rfl (by omega) (getD_in hjs hl) t (Nat.le_refl _) hr
    · have h1 := List.all_eq_true.1 hc t (List.mem_range.2 htlt)
      simp only [Bool.or_eq_true, decide_eq_true_eq] at h1
      rcases h1 with h1 | h1
      · omega
      · obtain ⟨s, hs1, hs2⟩ := List.any_eq_true.1 h1
        simp only [Bool.and_eq_true, decide_eq_true_eq] at hs2
        have hst := List.mem_range.1 hs1
        obtain ⟨o', ho', e, he, hb, hon⟩ := Region.waitsFor_spec hs2.2
        have : o' = ot := Option.some.inj (ho'.symm.trans hot)
        subst this
        have h2 := hall e he hb
        rw [hon, getD_both (inv.tail s hs2.1 (by omega))] at h2
        cases h2

theorem anyH_first {n i : Nat} {oi : Oper} {v : Value} {L : Array Bool → Act → Prop} (hi : ops[i]? = some oi) (hsel : ∀ (j : Nat) (o : Oper) cs b, ops[j]? = some o → o.op ≠ .select cs b)
    (hs : Region.sinkB md ops n = true) (hc : chainW md ops n = true) (hin : i < n)
    (hdone : ∀ listed a, L listed a → ∀ j ∈ Region.ready md ops listed, n ≤ j) :
    ∀ (f : Nat) (listed : Array Bool) (a : Act), HeadInv md ops n listed →
      (∀ j oj, ops[j]? = some oj → j ≠ i → listed.getD j true = false → (∀ e ∈ oj.after, Region.binds md e = true → e.on ≠ i) → oi.apart ops oj = true) →
      i ∈ Region.ready md ops listed → YieldsIn P ops C oi v a →
      anyL P md ops C n L f (listed.setIfInBounds i true) (a.put oi.dst v) → anyL P md ops C n L (f + 1) listed a := by
  intro f
  induction f with
  | zero =>
    intro listed a inv _ hr hy H
    have hun := (mem_ready.1 hr).1
    refine ⟨fun h => (by rw [h] at hr; cases hr), fun j hj => ?_⟩
    have hjn : j < n := by
      rcases Nat.lt_or_ge j n with h | h
      · exact h
      · exact absurd hj (waits_tail hs hc inv _ i rfl hin hun j h)
    refine ⟨hjn, ?_⟩
    by_cases hji : j = i
    · subst hji; exact hy.qOp hi H
    · have := hdone _ _ H j (ready_mono hj hji)
      omega
  | succ f ih =>
    intro listed a inv hfree hr hy H
    have hun := (mem_ready.1 hr).1
    refine ⟨fun h => (by rw [h] at hr; cases hr), fun j hj => ?_⟩
    have hjn : j < n := by
      rcases Nat.lt_or_ge j n with h | h
      · exact h
      · exact absurd hj (waits_tail hs hc inv _ i rfl hin hun j h)
    refine ⟨hjn, ?_⟩
    by_cases hji : j = i
    · subst hji; exact hy.qOp hi H
    · have h1 := (H.2 j (ready_mono hj hji)).2
      obtain ⟨hjun, oj, hoj, hall⟩ := mem_ready.1 hj
      have hnot : ∀ e ∈ oj.after, Region.binds md e = true → e.on ≠ i := fun e he hb heq => by
        have h1 := hall e he hb
        rw [heq, getD_both hun] at h1
        cases h1
      have h2 := qOp_put hoj (hfree j oj hoj hji hjun hnot) (fun cs b => hsel i oi cs b hi) (fun cs b => hsel j oj cs b hoj) hy h1
      have hfree' : ∀ k ok, ops[k]? = some ok → k ≠ i → (listed.setIfInBounds j true).getD k true = false →
          (∀ e ∈ ok.after, Region.binds md e = true → e.on ≠ i) → oi.apart ops ok = true := fun k ok hk hki hun hno => by
        refine hfree k ok hk hki ?_ hno
        by_cases hjk : j = k
        · subst hjk; exact hjun
        · rw [getD_set_ne true hjk] at hun; exact hun
      refine qOp_mono (fun a' h3 => ih (listed.setIfInBounds j true) a' (inv.set hj hjn) hfree' (ready_mono hr (Ne.symm hji)) h3.1 ?_) h2
      rw [Array.setIfInBounds_comm _ _ hji]
      exact h3.2

def headB (md : Region.Mode) (ops : Array Oper) (L0 : Array Bool) : Nat → Nat → Array Bool → Bool
  | 0, _, listed => decide (listed = L0)
  | f + 1, k, listed => (Region.ready md ops listed).contains k && Region.free md ops listed k && headB md ops L0 f (k + 1) (listed.setIfInBounds k true)

theorem anyH_lex {n : Nat} {L0 : Array Bool} {Lq : Act → Prop} (hsel : Region.noSelect ops = true) (hs : Region.sinkB md ops n = true) (hc : chainW md ops n = true) (hd : ∀ j ∈ Region.ready md ops L0, n ≤ j) :
    ∀ (l : List Oper) (k : Nat) (listed : Array Bool) (a : Act), (∀ j, j < l.length → l[j]? = ops[k + j]?) → k + l.length = n → HeadInv md ops n listed →
    headB md ops L0 l.length k listed = true → wpQuiet P ops C Lq l a →
    anyL P md ops C n (fun listed' a' => listed' = L0 ∧ Lq a') l.length listed a
  | [], k, listed, a, _, hk, _, hB, h => ⟨by simpa [headB] using hB, h⟩
  | o :: l, k, listed, a, hl, hk, inv, hB, h => by
    have h0 : ops[k]? = some o := by simpa using (hl 0 (by simp)).symm
    simp only [List.length_cons, headB, Bool.and_eq_true] at hB
    obtain ⟨⟨hr, hf⟩, hB'⟩ := hB
    have hkn : k < n := by simp only [List.length_cons] at hk; omega
    have hr' : k ∈ Region.ready md ops listed := by simpa using hr
    have hst : qOp P ops C k (wpQuiet P ops C Lq l) a := by unfold qOp; simp only [h0]; exact h
    obtain ⟨v, hy, hK⟩ := yieldsIn_of_qOp h0 hst
    exact anyH_first h0 (Region.noSelect_spec hsel) hs hc hkn (fun listed' a' hL => by rw [hL.1]; exact hd) l.length listed a inv (Region.free_spec h0 hf) hr' hy
      (anyH_lex hsel hs hc hd l (k + 1) _ _ (fun j hj => by have := hl (j + 1) (by simp; omega); simpa [Nat.add_assoc, Nat.add_comm 1 j] using this) (by simp only [List.length_cons] at hk; omega) (inv.set hr' hkn) hB' hK)
end

/-- A drawn region whose first n operations only read and call; what is left is asked of every order. -/
theorem wp_region_head {P : Program} {id : Nat} {Q : Exit → Act → World → Prop} {a : Act} {w : World} {l : List Oper} (n g : Nat) (L0 : Array Bool) (hm : P.follows .mixedOrders = true)
    (hsel : Region.noSelect l.toArray = true) (hs : Region.sinkB .any l.toArray n = true) (hc : chainW .any l.toArray n = true) (hd : (Region.ready .any l.toArray L0).all (fun j => decide (n ≤ j)) = true) (hB : headB .any l.toArray L0 n 0 (Array.replicate l.toArray.size false) = true) (hg : l.length = n + g)
    (h : wpQuiet P l.toArray (fun w' => ∃ u : Later w, w' = u.world) (fun a' => ∀ w', (∃ u : Later w, w' = u.world) → wpAny P .any l.toArray Q g L0 a' w') (l.take n) a) : (Code.region id l.toArray true).wp P Q a w := by
  have htl : (l.take n).length = n := by simp; omega
  have inv0 : HeadInv .any l.toArray n (Array.replicate l.toArray.size false) :=
    ⟨by simp, fun j oj _ hl => (by rw [getD_replicate_false] at hl; cases hl), fun t _ ht => getD_in (by simpa using ht) (getD_replicate_false _ _)⟩
  have H := anyH_lex (md := .any) (L0 := L0) hsel hs hc (fun j hj => of_decide_eq_true (List.all_eq_true.1 hd j hj)) (l.take n) 0 _ a (fun j hj => by
    have hj' : j < n := by rw [htl] at hj; exact hj
    simp [hj']) (by simpa using htl) inv0 (by rw [htl]; exact hB) h
  refine wp_region_any hm ?_
  have hC : (fun w' => ∃ u : Later w, w' = u.world) w.drew := ⟨⟨w.drew, (Below.refl _ _).drew⟩, rfl⟩
  have := any_of_head (Q' := Q) (g := g) (fun listed a' w' hw' hL => by rw [hL.1]; exact hL.2 w' hw') _ _ _ _ hC H
  rw [htl] at this
  rw [show l.toArray.size = n + g by simpa using hg]
  rw [show l.toArray.size = n + g by simpa using hg] at this
  exact this

/-- Two that reckon, then a store that waits for the first one alone. -/
theorem any_two {P : Program} {ops : Array Oper} {Q : Exit → Act → World → Prop} {a : Act} {w w' : World} {i0 i1 i2 : Nat} {o0 o1 o2 : Oper} {v0 v1 : Value} (L : Array Bool) (h0 : ops[i0]? = some o0) (h1 : ops[i1]? = some o1) (h2 : ops[i2]? = some o2)
    (r0 : Region.ready .any ops L = [i0, i1]) (r1 : Region.ready .any ops (L.setIfInBounds i0 true) = [i1, i2]) (r2 : Region.ready .any ops (L.setIfInBounds i1 true) = [i0]) (r3 : Region.ready .any ops ((L.setIfInBounds i0 true).setIfInBounds i1 true) = [i2])
    (r4 : Region.ready .any ops ((L.setIfInBounds i0 true).setIfInBounds i2 true) = [i1]) (r5 : Region.ready .any ops (((L.setIfInBounds i0 true).setIfInBounds i1 true).setIfInBounds i2 true) = []) (d1 : i1 ≠ i0) (d2 : i2 ≠ i1)
    (q0 : o0.guard = none) (q1 : o1.guard = none) (q2 : o2.guard = none) (q3 : o2.dst = none)
    (e0 : (execOp a.eval o0).run P w = .ok (.value v0) w) (e0' : (execOp (a.put o1.dst v1).eval o0).run P w = .ok (.value v0) w)
    (e1 : (execOp a.eval o1).run P w = .ok (.value v1) w) (e1a : (execOp (a.put o0.dst v0).eval o1).run P w = .ok (.value v1) w) (e1b : (execOp (a.put o0.dst v0).eval o1).run P w' = .ok (.value v1) w')
    (e2 : (execOp (a.put o0.dst v0).eval o2).run P w = .ok .skip w') (e2a : (execOp ((a.put o0.dst v0).put o1.dst v1).eval o2).run P w = .ok .skip w')
    (comm : (a.put o1.dst v1).put o0.dst v0 = (a.put o0.dst v0).put o1.dst v1)
    (h : Q .normal ((a.put o0.dst v0).put o1.dst v1) w') : wpAny P .any ops Q 3 L a w := by
  have pn : ∀ (b : Act) (v : Value), b.put none v = b := fun b v => rfl
  have fin : wpAny P .any ops Q 0 (((L.setIfInBounds i0 true).setIfInBounds i1 true).setIfInBounds i2 true) ((a.put o0.dst v0).put o1.dst v1) w' := ⟨r5, h⟩
  refine any_step [i0, i1] r0 (by simp) fun i hi => ?_
  simp only [List.mem_cons, List.not_mem_nil, or_false] at hi
  rcases hi with rfl | rfl
  · refine wpOp_value h0 q0 e0 (any_step [i1, i2] r1 (by simp) fun j hj => ?_)
    simp only [List.mem_cons, List.not_mem_nil, or_false] at hj
    rcases hj with rfl | rfl
    · refine wpOp_value h1 q1 e1a (any_step [i2] r3 (by simp) fun j hj => ?_)
      simp only [List.mem_cons, List.not_mem_nil, or_false] at hj
      subst hj
      refine wpOp_skip h2 q2 e2a ?_
      rw [q3, pn]
      exact fin
    · refine wpOp_skip h2 q2 e2 ?_
      rw [q3, pn]
      refine any_step [i1] r4 (by simp) fun j hj => ?_
      simp only [List.mem_cons, List.not_mem_nil, or_false] at hj
      subst hj
      refine wpOp_value h1 q1 e1b ?_
      rw [Array.setIfInBounds_comm _ _ d2]
      exact fin
  · refine wpOp_value h1 q1 e1 (any_step [i0] r2 (by simp) fun j hj => ?_)
    simp only [List.mem_cons, List.not_mem_nil, or_false] at hj
    subst hj
    refine wpOp_value h0 q0 e0' ?_
    rw [comm, Array.setIfInBounds_comm _ _ d1]
    refine any_step [i2] r3 (by simp) fun j hj => ?_
    simp only [List.mem_cons, List.not_mem_nil, or_false] at hj
    subst hj
    refine wpOp_skip h2 q2 e2a ?_
    rw [q3, pn]
    exact fin
theorem any_fix {P : Program} {Q : Exit → Act → World → Prop} {a : Act} {w w' : World} {p0 p1 p2 p3 p4 p5 p6 o7 o8 o9 o10 : Oper} {v v0 v1 : Value}
    (r7 : Region.ready .any (p0 :: p1 :: p2 :: p3 :: p4 :: p5 :: p6 :: o7 :: o8 :: o9 :: o10 :: []).toArray #[true, true, true, true, true, true, true, false, false, false, false] = [7])
    (r0 : Region.ready .any (p0 :: p1 :: p2 :: p3 :: p4 :: p5 :: p6 :: o7 :: o8 :: o9 :: o10 :: []).toArray #[true, true, true, true, true, true, true, true, false, false, false] = [8, 9])
    (r1 : Region.ready .any (p0 :: p1 :: p2 :: p3 :: p4 :: p5 :: p6 :: o7 :: o8 :: o9 :: o10 :: []).toArray #[true, true, true, true, true, true, true, true, true, false, false] = [9, 10])
    (r2 : Region.ready .any (p0 :: p1 :: p2 :: p3 :: p4 :: p5 :: p6 :: o7 :: o8 :: o9 :: o10 :: []).toArray #[true, true, true, true, true, true, true, true, false, true, false] = [8])
    (r3 : Region.ready .any (p0 :: p1 :: p2 :: p3 :: p4 :: p5 :: p6 :: o7 :: o8 :: o9 :: o10 :: []).toArray #[true, true, true, true, true, true, true, true, true, true, false] = [10])
    (r4 : Region.ready .any (p0 :: p1 :: p2 :: p3 :: p4 :: p5 :: p6 :: o7 :: o8 :: o9 :: o10 :: []).toArray #[true, true, true, true, true, true, true, true, true, false, true] = [9])
    (r5 : Region.ready .any (p0 :: p1 :: p2 :: p3 :: p4 :: p5 :: p6 :: o7 :: o8 :: o9 :: o10 :: []).toArray #[true, true, true, true, true, true, true, true, true, true, true] = [])
    (q7 : o7.guard = none) (q0 : o8.guard = none) (q1 : o9.guard = none) (q2 : o10.guard = none) (q3 : o10.dst = none)
    (e7 : (execOp a.eval o7).run P w = .ok (.value v) w)
    (e0 : (execOp (a.put o7.dst v).eval o8).run P w = .ok (.value v0) w) (e0' : (execOp ((a.put o7.dst v).put o9.dst v1).eval o8).run P w = .ok (.value v0) w)
    (e1 : (execOp (a.put o7.dst v).eval o9).run P w = .ok (.value v1) w) (e1a : (execOp ((a.put o7.dst v).put o8.dst v0).eval o9).run P w = .ok (.value v1) w) (e1b : (execOp ((a.put o7.dst v).put o8.dst v0).eval o9).run P w' = .ok (.value v1) w')
    (e2 : (execOp ((a.put o7.dst v).put o8.dst v0).eval o10).run P w = .ok .skip w') (e2a : (execOp (((a.put o7.dst v).put o8.dst v0).put o9.dst v1).eval o10).run P w = .ok .skip w')
    (comm : ((a.put o7.dst v).put o9.dst v1).put o8.dst v0 = ((a.put o7.dst v).put o8.dst v0).put o9.dst v1)
    (h : Q .normal (((a.put o7.dst v).put o8.dst v0).put o9.dst v1) w') :
    wpAny P .any (p0 :: p1 :: p2 :: p3 :: p4 :: p5 :: p6 :: o7 :: o8 :: o9 :: o10 :: []).toArray Q 4 #[true, true, true, true, true, true, true, false, false, false, false] a w := by
  refine any_step [7] r7 (by simp) fun i hi => ?_
  simp only [List.mem_cons, List.not_mem_nil, or_false] at hi
  subst hi
  refine wpOp_value (o := o7) rfl q7 e7 ?_
  exact any_two (i0 := 8) (i1 := 9) (i2 := 10) (o0 := o8) (o1 := o9) (o2 := o10) _ rfl rfl rfl r0 r1 r2 r3 r4 r5 (by decide) (by decide) q0 q1 q2 q3 e0 e0' e1 e1a e1b e2 e2a comm h
theorem run_move (P : Program) (a : Act) (o : Oper) (w : World) (x : Operand) (v : Value) (ho : o.op = .move x) (hx : a.eval x = v) : (execOp a.eval o).run P w = .ok (.value v) w := by
  unfold execOp
  simp only [ho, Sem.run_pure, hx]
theorem run_extract (P : Program) (a : Act) (o : Oper) (w : World) (x : Operand) (i : Nat) (vs : Array Value) (v : Value) (ho : o.op = .extract x i) (hx : a.eval x = .tuple vs) (hv : vs[i]? = some v) : (execOp a.eval o).run P w = .ok (.value v) w := by
  unfold execOp
  simp [ho, hx, Instr.extract, hv]
end Go.Proofs.YtplnlmkmaapbaaaDoor
