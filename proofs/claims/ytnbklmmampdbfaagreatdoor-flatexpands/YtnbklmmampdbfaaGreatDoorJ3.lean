import Derived.Test.YtnbklmmampdbfaaGreatDoorJ2
import Derived.Test.YtnbklmmampdbfaaGreatDoorJ1
import Derived.Sort.LotA
import Derived.Shelf.SlSortCmp.KitK
import Derived.Deep.LoopGhost
import Derived.Deep.CutRange
namespace Go.Proofs.YtnbklmmampdbfaaGreatDoor
open Go Go.RowKit
set_option maxRecDepth 20000

section
variable {P : Program} {ops : Array Oper} {md : Region.Mode} {C : World → Prop}

/-- Each operation behind the first n + 1 waits for one of those from n on. -/
def chainW (md : Region.Mode) (ops : Array Oper) (n : Nat) : Bool :=
  (List.range ops.size).all fun t => decide (t ≤ n) || (List.range t).any fun s => decide (n ≤ s) && Region.waitsFor md ops t s

theorem waits_tail {n : Nat} {listed : Array Bool} (hs : Region.sinkB md ops n = true) (hc : chainW md ops n = true) (inv : HeadInv md ops n listed) :
    ∀ (d i : Nat), n - i = d → i < n → listed.getD i true = false → ∀ t, n ≤ t → t ∉ Region.ready md ops listed := by
  intro d
  induction d using Nat.strongRecOn with
  | _ d ih =>
    intro i hd hi hun t ht hr
    obtain ⟨_, ot, hot, hall⟩ := mem_ready.1 hr
    have htlt : t < ops.size := (Array.getElem?_eq_some_iff.1 hot).1
    by_cases htn : t = n
    · subst htn
      have h1 := List.all_eq_true.1 hs i (List.mem_range.2 hi)
      obtain ⟨j, hj, hj2⟩ := List.any_eq_true.1 h1
      simp only [Bool.and_eq_true, decide_eq_true_eq] at hj2
      obtain ⟨oj, hoj, e, he, hb, hon⟩ := Region.waitsFor_spec hj2.2
      have hjle : j ≤ t := by have := List.mem_range.1 hj; omega
      by_cases hjt : j = t
      · subst hjt
        have : oj = ot := Option.some.inj (hoj.symm.trans hot)
        subst this
        have h2 := hall e he hb
        rw [hon, getD_both hun] at h2
        cases h2
      · cases hl : listed.getD j false with
        | true =>
          have h2 := inv.closed j oj hoj hl e he hb
          rw [hon, getD_both hun] at h2
          cases h2
        | false =>
          have hjs : j < listed.size := by rw [inv.size]; omega
          exact ih (t - j) (by omega) j rfl (by omega) (getD_in hjs hl) t (Nat.le_refl _) hr
    · have h1 := List.all_eq_true.1 hc t (List.mem_range.2 htlt)
      simp only [Bool.or_eq_true, decide_eq_true_eq] at h1
      rcases h1 with h1 | h1
      · omega
      · obtain ⟨s, hs1, hs2⟩ := List.any_eq_true.1 h1
        simp only [Bool.and_eq_true, decide_eq_true_eq] at hs2
        have hst := List.mem_range.1 hs1
        obtain ⟨o', ho', e, he, hb, hon⟩ := Region.waitsFor_spec hs2.2
        have : o' = ot := Option.some.inj (ho'.symm.trans hot)
        subst this
        have h2 := hall e he hb
        rw [hon, getD_both (inv.tail s hs2.1 (by omega))] at h2
        cases h2

theorem anyH_first {n i : Nat} {oi : Oper} {v : Value} {L : Array Bool → Act → Prop} (hi : ops[i]? = some oi) (hsel : ∀ (j : Nat) (o : Oper) cs b, ops[j]? = some o → o.op ≠ .select cs b)
    (hs : Region.sinkB md ops n = true) (hc : chainW md ops n = true) (hin : i < n)
    (hdone : ∀ listed a, L listed a → ∀ j ∈ Region.ready md ops listed, n ≤ j) :
    ∀ (f : Nat) (listed : Array Bool) (a : Act), HeadInv md ops n listed →
      (∀ j oj, ops[j]? = some oj → j ≠ i → listed.getD j true = false → (∀ e ∈ oj.after, Region.binds md e = true → e.on ≠ i) → oi.apart ops oj = true) →
      i ∈ Region.ready md ops listed → YieldsIn P ops C oi v a →
      anyL P md ops C n L f (listed.setIfInBounds i true) (a.put oi.dst v) → anyL P md ops C n L (f + 1) listed a := by
  intro f
  induction f with
  | zero =>
    intro listed a inv _ hr hy H
    have hun := (mem_ready.1 hr).1
    refine ⟨fun h => (by rw [h] at hr; cases hr), fun j hj => ?_⟩
    have hjn : j < n := by
      rcases Nat.lt_or_ge j n with h | h
      · exact h
      · exact absurd hj (waits_tail hs hc inv _ i rfl hin hun j h)
    refine ⟨hjn, ?_⟩
    by_cases hji : j = i
    · subst hji; exact hy.qOp hi H
    · have := hdone _ _ H j (ready_mono hj hji)
      omega
  | succ f ih =>
    intro listed a inv hfree hr hy H
    have hun := (mem_ready.1 hr).1
    refine ⟨fun h => (by rw [h] at hr; cases hr), fun j hj => ?_⟩
    have hjn : j < n := by
      rcases Nat.lt_or_ge j n with h | h
      · exact h
      · exact absurd hj (waits_tail hs hc inv _ i rfl hin hun j h)
    refine ⟨hjn, ?_⟩
    by_cases hji : j = i
    · subst hji; exact hy.qOp hi H
    · have h1 := (H.2 j (ready_mono hj hji)).2
      obtain ⟨hjun, oj, hoj, hall⟩ := mem_ready.1 hj
      have hnot : ∀ e ∈ oj.after, Region.binds md e = true → e.on ≠ i := fun e he hb heq => by
        have h1 := hall e he hb
        rw [heq, getD_both hun] at h1
        cases h1
      have h2 := qOp_put hoj (hfree j oj hoj hji hjun hnot) (fun cs b => hsel i oi cs b hi) (fun cs b => hsel j oj cs b hoj) hy h1
      have hfree' : ∀ k ok, ops[k]? = some ok → k ≠ i → (listed.setIfInBounds j true).getD k true = false →
          (∀ e ∈ ok.after, Region.binds md e = true → e.on ≠ i) → oi.apart ops ok = true := fun k ok hk hki hun hno => by
        refine hfree k ok hk hki ?_ hno
        by_cases hjk : j = k
        · subst hjk; exact hjun
        · rw [getD_set_ne true hjk] at hun; exact hun
      refine qOp_mono (fun a' h3 => ih (listed.setIfInBounds j true) a' (inv.set hj hjn) hfree' (ready_mono hr (Ne.symm hji)) h3.1 ?_) h2
      rw [Array.setIfInBounds_comm _ _ hji]
      exact h3.2

def headB (md : Region.Mode) (ops : Array Oper) (L0 : Array Bool) : Nat → Nat → Array Bool → Bool
  | 0, _, listed => decide (listed = L0)
  | f + 1, k, listed => (Region.ready md ops listed).contains k && Region.free md ops listed k && headB md ops L0 f (k + 1) (listed.setIfInBounds k true)

theorem anyH_lex {n : Nat} {L0 : Array Bool} {Lq : Act → Prop} (hsel : Region.noSelect ops = true) (hs : Region.sinkB md ops n = true) (hc : chainW md ops n = true) (hd : ∀ j ∈ Region.ready md ops L0, n ≤ j) :
    ∀ (l : List Oper) (k : Nat) (listed : Array Bool) (a : Act), (∀ j, j < l.length → l[j]? = ops[k + j]?) → k + l.length = n → HeadInv md ops n listed →
    headB md ops L0 l.length k listed = true → wpQuiet P ops C Lq l a →
    anyL P md ops C n (fun listed' a' => listed' = L0 ∧ Lq a') l.length listed a
  | [], k, listed, a, _, hk, _, hB, h => ⟨by simpa [headB] using hB, h⟩
  | o :: l, k, listed, a, hl, hk, inv, hB, h => by
    have h0 : ops[k]? = some o := by simpa using (hl 0 (by simp)).symm
    simp only [List.length_cons, headB, Bool.and_eq_true] at hB
    obtain ⟨⟨hr, hf⟩, hB'⟩ := hB
    have hkn : k < n := by simp only [List.length_cons] at hk; omega
    have hr' : k ∈ Region.ready md ops listed := by simpa using hr
    have hst : qOp P ops C k (wpQuiet P ops C Lq l) a := by unfold qOp; simp only [h0]; exact h
    obtain ⟨v, hy, hK⟩ := yieldsIn_of_qOp h0 hst
    exact anyH_first h0 (Region.noSelect_spec hsel) hs hc hkn (fun listed' a' hL => by rw [hL.1]; exact hd) l.length listed a inv (Region.free_spec h0 hf) hr' hy
      (anyH_lex hsel hs hc hd l (k + 1) _ _ (fun j hj => by have := hl (j + 1) (by simp; omega); simpa [Nat.add_assoc, Nat.add_comm 1 j] using this) (by simp only [List.length_cons] at hk; omega) (inv.set hr' hkn) hB' hK)
end

/-- A drawn region whose first n operations only read and call; what is left is asked of every order. -/
theorem wp_region_head {P : Program} {id : Nat} {Q : Exit → Act → World → Prop} {a : Act} {w : World} {l : List Oper} (n g : Nat) (L0 : Array Bool) (hm : P.follows .mixedOrders = true)
    (hsel : Region.noSelect l.toArray = true) (hs : Region.sinkB .any l.toArray n = true) (hc : chainW .any l.toArray n = true) (hd : (Region.ready .any l.toArray L0).all (fun j => decide (n ≤ j)) = true) (hB : headB .any l.toArray L0 n 0 (Array.replicate l.toArray.size false) = true) (hg : l.length = n + g)
    (h : wpQuiet P l.toArray (fun w' => ∃ u : Later w, w' = u.world) (fun a' => ∀ w', (∃ u : Later w, w' = u.world) → wpAny P .any l.toArray Q g L0 a' w') (l.take n) a) : (Code.region id l.toArray true).wp P Q a w := by
  have htl : (l.take n).length = n := by simp; omega
  have inv0 : HeadInv .any l.toArray n (Array.replicate l.toArray.size false) :=
    ⟨by simp, fun j oj _ hl => (by rw [getD_replicate_false] at hl; cases hl), fun t _ ht => getD_in (by simpa using ht) (getD_replicate_false _ _)⟩
  have H := anyH_lex (md := .any) (L0 := L0) hsel hs hc (fun j hj => of_decide_eq_true (List.all_eq_true.1 hd j hj)) (l.take n) 0 _ a (fun j hj => by
    have hj' : j < n := by rw [htl] at hj; exact hj
    simp [hj']) (by simpa using htl) inv0 (by rw [htl]; exact hB) h
  refine wp_region_any hm ?_
  have hC : (fun w' => ∃ u : Later w, w' = u.world) w.drew := ⟨⟨w.drew, (Below.refl _ _).drew⟩, rfl⟩
  have := any_of_head (Q' := Q) (g := g) (fun listed a' w' hw' hL => by rw [hL.1]; exact hL.2 w' hw') _ _ _ _ hC H
  rw [htl] at this
  rw [show l.toArray.size = n + g by simpa using hg]
  rw [show l.toArray.size = n + g by simpa using hg] at this
  exact this

/-- Two that reckon, then a store that waits for the first one alone. -/
theorem any_two {P : Program} {ops : Array Oper} {Q : Exit → Act → World → Prop} {a : Act} {w w' : World} {i0 i1 i2 : Nat} {o0 o1 o2 : Oper} {v0 v1 : Value} (L : Array Bool) (h0 : ops[i0]? = some o0) (h1 : ops[i1]? = some o1) (h2 : ops[i2]? = some o2)
    (r0 : Region.ready .any ops L = [i0, i1]) (r1 : Region.ready .any ops (L.setIfInBounds i0 true) = [i1, i2]) (r2 : Region.ready .any ops (L.setIfInBounds i1 true) = [i0]) (r3 : Region.ready .any ops ((L.setIfInBounds i0 true).setIfInBounds i1 true) = [i2])
    (r4 : Region.ready .any ops ((L.setIfInBounds i0 true).setIfInBounds i2 true) = [i1]) (r5 : Region.ready .any ops (((L.setIfInBounds i0 true).setIfInBounds i1 true).setIfInBounds i2 true) = []) (d1 : i1 ≠ i0) (d2 : i2 ≠ i1)
    (q0 : o0.guard = none) (q1 : o1.guard = none) (q2 : o2.guard = none) (q3 : o2.dst = none)
    (e0 : (execOp a.eval o0).run P w = .ok (.value v0) w) (e0' : (execOp (a.put o1.dst v1).eval o0).run P w = .ok (.value v0) w)
    (e1 : (execOp a.eval o1).run P w = .ok (.value v1) w) (e1a : (execOp (a.put o0.dst v0).eval o1).run P w = .ok (.value v1) w) (e1b : (execOp (a.put o0.dst v0).eval o1).run P w' = .ok (.value v1) w')
    (e2 : (execOp (a.put o0.dst v0).eval o2).run P w = .ok .skip w') (e2a : (execOp ((a.put o0.dst v0).put o1.dst v1).eval o2).run P w = .ok .skip w')
    (comm : (a.put o1.dst v1).put o0.dst v0 = (a.put o0.dst v0).put o1.dst v1)
    (h : Q .normal ((a.put o0.dst v0).put o1.dst v1) w') : wpAny P .any ops Q 3 L a w := by
  have pn : ∀ (b : Act) (v : Value), b.put none v = b := fun b v => rfl
  have fin : wpAny P .any ops Q 0 (((L.setIfInBounds i0 true).setIfInBounds i1 true).setIfInBounds i2 true) ((a.put o0.dst v0).put o1.dst v1) w' := ⟨r5, h⟩
  refine any_step [i0, i1] r0 (by simp) fun i hi => ?_
  simp only [List.mem_cons, List.not_mem_nil, or_false] at hi
  rcases hi with rfl | rfl
  · refine wpOp_value h0 q0 e0 (any_step [i1, i2] r1 (by simp) fun j hj => ?_)
    simp only [List.mem_cons, List.not_mem_nil, or_false] at hj
    rcases hj with rfl | rfl
    · refine wpOp_value h1 q1 e1a (any_step [i2] r3 (by simp) fun j hj => ?_)
      simp only [List.mem_cons, List.not_mem_nil, or_false] at hj
      subst hj
      refine wpOp_skip h2 q2 e2a ?_
      rw [q3, pn]
      exact fin
    · refine wpOp_skip h2 q2 e2 ?_
      rw [q3, pn]
      refine any_step [i1] r4 (by simp) fun j hj => ?_
      simp only [List.mem_cons, List.not_mem_nil, or_false] at hj
      subst hj
      refine wpOp_value h1 q1 e1b ?_
      rw [Array.setIfInBounds_comm _ _ d2]
      exact fin
  · refine wpOp_value h1 q1 e1 (any_step [i0] r2 (by simp) fun j hj => ?_)
    simp only [List.mem_cons, List.not_mem_nil, or_false] at hj
    subst hj
    refine wpOp_value h0 q0 e0' ?_
    rw [comm, Array.setIfInBounds_comm _ _ d1]
    refine any_step [i2] r3 (by simp) fun j hj => ?_
    simp only [List.mem_cons, List.not_mem_nil, or_false] at hj
    subst hj
    refine wpOp_skip h2 q2 e2a ?_
    rw [q3, pn]
    exact fin
theorem any_fix {P : Program} {Q : Exit → Act → World → Prop} {a : Act} {w w' : World} {p0 p1 p2 p3 p4 p5 p6 o7 o8 o9 o10 : Oper} {v v0 v1 : Value}
    (r7 : Region.ready .any (p0 :: p1 :: p2 :: p3 :: p4 :: p5 :: p6 :: o7 :: o8 :: o9 :: o10 :: []).toArray #[true, true, true, true, true, true, true, false, false, false, false] = [7])
    (r0 : Region.ready .any (p0 :: p1 :: p2 :: p3 :: p4 :: p5 :: p6 :: o7 :: o8 :: o9 :: o10 :: []).toArray #[true, true, true, true, true, true, true, true, false, false, false] = [8, 9])
    (r1 : Region.ready .any (p0 :: p1 :: p2 :: p3 :: p4 :: p5 :: p6 :: o7 :: o8 :: o9 :: o10 :: []).toArray #[true, true, true, true, true, true, true, true, true, false, false] = [9, 10])
    (r2 : Region.ready .any (p0 :: p1 :: p2 :: p3 :: p4 :: p5 :: p6 :: o7 :: o8 :: o9 :: o10 :: []).toArray #[true, true, true, true, true, true, true, true, false, true, false] = [8])
    (r3 : Region.ready .any (p0 :: p1 :: p2 :: p3 :: p4 :: p5 :: p6 :: o7 :: o8 :: o9 :: o10 :: []).toArray #[true, true, true, true, true, true, true, true, true, true, false] = [10])
    (r4 : Region.ready .any (p0 :: p1 :: p2 :: p3 :: p4 :: p5 :: p6 :: o7 :: o8 :: o9 :: o10 :: []).toArray #[true, true, true, true, true, true, true, true, true, false, true] = [9])
    (r5 : Region.ready .any (p0 :: p1 :: p2 :: p3 :: p4 :: p5 :: p6 :: o7 :: o8 :: o9 :: o10 :: []).toArray #[true, true, true, true, true, true, true, true, true, true, true] = [])
    (q7 : o7.guard = none) (q0 : o8.guard = none) (q1 : o9.guard = none) (q2 : o10.guard = none) (q3 : o10.dst = none)
    (e7 : (execOp a.eval o7).run P w = .ok (.value v) w)
    (e0 : (execOp (a.put o7.dst v).eval o8).run P w = .ok (.value v0) w) (e0' : (execOp ((a.put o7.dst v).put o9.dst v1).eval o8).run P w = .ok (.value v0) w)
    (e1 : (execOp (a.put o7.dst v).eval o9).run P w = .ok (.value v1) w) (e1a : (execOp ((a.put o7.dst v).put o8.dst v0).eval o9).run P w = .ok (.value v1) w) (e1b : (execOp ((a.put o7.dst v).put o8.dst v0).eval o9).run P w' = .ok (.value v1) w')
    (e2 : (execOp ((a.put o7.dst v).put o8.dst v0).eval o10).run P w = .ok .skip w') (e2a : (execOp (((a.put o7.dst v).put o8.dst v0).put o9.dst v1).eval o10).run P w = .ok .skip w')
    (comm : ((a.put o7.dst v).put o9.dst v1).put o8.dst v0 = ((a.put o7.dst v).put o8.dst v0).put o9.dst v1)
    (h : Q .normal (((a.put o7.dst v).put o8.dst v0).put o9.dst v1) w') :
    wpAny P .any (p0 :: p1 :: p2 :: p3 :: p4 :: p5 :: p6 :: o7 :: o8 :: o9 :: o10 :: []).toArray Q 4 #[true, true, true, true, true, true, true, false, false, false, false] a w := by
  refine any_step [7] r7 (by simp) fun i hi => ?_
  simp only [List.mem_cons, List.not_mem_nil, or_false] at hi
  subst hi
  refine wpOp_value (o := o7) rfl q7 e7 ?_
  exact any_two (i0 := 8) (i1 := 9) (i2 := 10) (o0 := o8) (o1 := o9) (o2 := o10) _ rfl rfl rfl r0 r1 r2 r3 r4 r5 (by decide) (by decide) q0 q1 q2 q3 e0 e0' e1 e1a e1b e2 e2a comm h
theorem run_move (P : Program) (a : Act) (o : Oper) (w : World) (x : Operand) (v : Value) (ho : o.op = .move x) (hx : a.eval x = v) : (execOp a.eval o).run P w = .ok (.value v) w := by
  unfold execOp
  simp only [ho, Sem.run_pure, hx]
theorem run_extract (P : Program) (a : Act) (o : Oper) (w : World) (x : Operand) (i : Nat) (vs : Array Value) (v : Value) (ho : o.op = .extract x i) (hx : a.eval x = .tuple vs) (hv : vs[i]? = some v) : (execOp a.eval o).run P w = .ok (.value v) w := by
  unfold execOp
  simp [ho, hx, Instr.extract, hv]
end Go.Proofs.YtnbklmmampdbfaaGreatDoor
namespace Go.Proofs.YtnbklmmampdbfaaGreatDoor
open Go Go.RowKit
set_option maxRecDepth 20000

/-- Thirteen bytes of ones. -/
def F : List Int := mk fun _ => true
theorem F_byt : Byt F := mk_byt _
theorem F_at (k : Nat) (hk : k < 13) : F.getD k 0 = 255 := by unfold F; rw [mk_at _ k hk]; rfl

theorem built1 (L : List Int) (hL : L.length = 13) (w : World) : (Instr.build 37 #[(0, .agg (hv L))]).run Tryz.prog w = .ok (.agg (cv L Z)) w := by
  have hz : ∀ w, (zeroValue 37).run Tryz.prog w = .ok (.agg zeroC) w := fun w => by kernel_rfl
  have hs : ∀ w, (sizeOf 31).run Tryz.prog w = .ok 13 w := fun w => by kernel_rfl
  have hsz : (hv L).size = 13 := by rw [hv_size, hL]
  have hfold : (hv L).zipIdx.foldl (fun cs (x : Value × Nat) => cs.setIfInBounds (0 + x.2) x.1) zeroC = cv L Z := by
    have e : (hv L).zipIdx.foldl (fun cs (x : Value × Nat) => cs.setIfInBounds (0 + x.2) x.1) zeroC = ((hv L).toList.zipIdx 0).foldl (fun cs (x : Value × Nat) => cs.setIfInBounds (0 + x.2) x.1) zeroC := by
      rw [← Array.foldl_toList]; simp
    rw [e]
    apply Array.ext_getElem?
    intro k
    rw [fold_get 0 (hv L).toList 0 zeroC k (by simp [hsz])]
    simp only [Array.length_toList, hsz, Nat.zero_add, Nat.sub_zero]
    by_cases hk : k < 13
    · rw [if_pos (by omega), Array.getElem?_toList, hv_at L hL k hk, cv_val L Z hL k hk]
    · rw [if_neg (by omega), zeroC_eq]
      by_cases h2 : k < 26
      · have e2 : k = 13 + (k - 13) := by omega
        rw [e2, cv_mask Z Z Z_byt.1 Z_byt.1 _ (by omega), cv_mask L Z hL Z_byt.1 _ (by omega)]
      · rw [Array.getElem?_eq_none (by rw [cv_size _ _ Z_byt.1 Z_byt.1]; omega), Array.getElem?_eq_none (by rw [cv_size _ _ hL Z_byt.1]; omega)]
  have hfill : ∀ pl : Nat → Option (Nat × Nat), pl 0 = some (0, 13) → Instr.fill pl zeroC [(0, .agg (hv L))] = some (cv L Z) := fun pl h0 => by
    simp only [Instr.fill, h0, Value.cells, hsz]
    rw [if_neg (by simp)]
    exact congrArg some hfold
  simp only [Instr.build, Sem.run_bind, hz, run_underlying Tryz.underlying37, Result.andThen_ok, Value.cells]
  simp [Sem.run_bind, hs, hfill]

theorem wl_buildC {ops : Array Oper} {rest : List Oper} {o : Oper} {a : Act} {w : World} {Q : Exit → Act → World → Prop} (hg : o.guard = none) (x : Operand) (ho : o.op = .build 37 #[(0, x)]) (L : List Int) (hL : L.length = 13) (hx : a.eval x = .agg (hv L))
    (h : wpList Tryz.prog ops Q rest (a.put o.dst (.agg (cv L Z))) w) : wpList Tryz.prog ops Q (o :: rest) a w :=
  wpList_plain hg fun _ hK => by
    unfold Oper.wp execOp
    have e : (#[(0, x)] : Array (Nat × Operand)).map (fun (i, x) => (i, a.eval x)) = #[(0, .agg (hv L))] := by simp [hx]
    simp only [ho, Sem.run_bind]
    rw [e, built1 L hL]
    exact hK _ _ h

end Go.Proofs.YtnbklmmampdbfaaGreatDoor
namespace Go.Proofs.YtnbklmmampdbfaaGreatDoor
open Go Go.RowKit
set_option maxRecDepth 20000

/-- The mask of so many bits from a place on. -/
def frM (F k : Nat) : List Int := mk fun i => decide (F ≤ i ∧ i < F + k)
/-- A header's so many bits from a place on. -/
def frV (L : List Int) (F k : Nat) : List Int := mk fun i => decide (F ≤ i ∧ i < F + k) && bt L i
theorem frM_byt (F k : Nat) : Byt (frM F k) := mk_byt _
theorem frV_byt (L : List Int) (F k : Nat) : Byt (frV L F k) := mk_byt _
theorem frM_bt (F k i : Nat) (hi : i < 104) : bt (frM F k) i = decide (F ≤ i ∧ i < F + k) := mk_bt _ i hi
theorem frV_bt (L : List Int) (F k i : Nat) (hi : i < 104) : bt (frV L F k) i = (decide (F ≤ i ∧ i < F + k) && bt L i) := mk_bt _ i hi
theorem dec_0 (F i : Nat) : decide (F ≤ i ∧ i < F + 0) = false := decide_eq_false (by omega)
theorem frM_0 (F : Nat) : frM F 0 = Z := bt_ext _ _ (frM_byt F 0) Z_byt fun i hi => by
  rw [frM_bt F 0 i hi, Z_bt i hi, dec_0]
theorem frV_0 (L : List Int) (F : Nat) : frV L F 0 = Z := bt_ext _ _ (frV_byt L F 0) Z_byt fun i hi => by
  rw [frV_bt L F 0 i hi, Z_bt i hi, dec_0]; rfl
theorem dec_step (F k i : Nat) : decide (F ≤ i ∧ i < F + (k + 1)) = if i = F + k then true else decide (F ≤ i ∧ i < F + k) := by
  by_cases e : i = F + k
  · rw [if_pos e]; simp; omega
  · rw [if_neg e, Bool.eq_iff_iff, decide_eq_true_eq, decide_eq_true_eq]; omega
theorem setM_step (F k : Nat) : setb (frM F k) (F + k) true = frM F (k + 1) := bt_ext _ _ (setb_byt _ _ _) (frM_byt _ _) fun i hi => by
  rw [setb_bt _ _ _ i hi, frM_bt _ _ i hi, frM_bt _ _ i hi, dec_step]
theorem setV_step (L : List Int) (F k : Nat) : setb (frV L F k) (F + k) (bt L (F + k)) = frV L F (k + 1) := bt_ext _ _ (setb_byt _ _ _) (frV_byt _ _ _) fun i hi => by
  rw [setb_bt _ _ _ i hi, frV_bt _ _ _ i hi, frV_bt _ _ _ i hi, dec_step]
  by_cases e : i = F + k
  · rw [if_pos e, if_pos e, e]; rfl
  · rw [if_neg e, if_neg e]
theorem can_fr (L : List Int) (F k : Nat) : can (frV L F k) (frM F k) = frV L F k := bt_ext _ _ (can_byt _ _) (frV_byt _ _ _) fun i hi => by
  rw [can_bt _ _ i hi, frV_bt _ _ _ i hi, frM_bt _ _ i hi]
  cases decide (F ≤ i ∧ i < F + k) <;> cases bt L i <;> rfl
theorem fixV_step (L : List Int) (F k : Nat) : fixV (frV L F k) (frM F k) (F + k) (bt L (F + k)) = frV L F (k + 1) := by
  unfold fixV; rw [can_fr, setV_step]
theorem fixM_step (F k : Nat) : fixM (frM F k) (F + k) = frM F (k + 1) := setM_step F k

theorem any_fix6 {P : Program} {Q : Exit → Act → World → Prop} {a : Act} {w w' : World} {p0 p1 p2 p3 p4 p5 o6 o7 o8 o9 : Oper} {v v0 v1 : Value}
    (r7 : Region.ready .any (p0 :: p1 :: p2 :: p3 :: p4 :: p5 :: o6 :: o7 :: o8 :: o9 :: []).toArray #[true, true, true, true, true, true, false, false, false, false] = [6])
    (r0 : Region.ready .any (p0 :: p1 :: p2 :: p3 :: p4 :: p5 :: o6 :: o7 :: o8 :: o9 :: []).toArray #[true, true, true, true, true, true, true, false, false, false] = [7, 8])
    (r1 : Region.ready .any (p0 :: p1 :: p2 :: p3 :: p4 :: p5 :: o6 :: o7 :: o8 :: o9 :: []).toArray #[true, true, true, true, true, true, true, true, false, false] = [8, 9])
    (r2 : Region.ready .any (p0 :: p1 :: p2 :: p3 :: p4 :: p5 :: o6 :: o7 :: o8 :: o9 :: []).toArray #[true, true, true, true, true, true, true, false, true, false] = [7])
    (r3 : Region.ready .any (p0 :: p1 :: p2 :: p3 :: p4 :: p5 :: o6 :: o7 :: o8 :: o9 :: []).toArray #[true, true, true, true, true, true, true, true, true, false] = [9])
    (r4 : Region.ready .any (p0 :: p1 :: p2 :: p3 :: p4 :: p5 :: o6 :: o7 :: o8 :: o9 :: []).toArray #[true, true, true, true, true, true, true, true, false, true] = [8])
    (r5 : Region.ready .any (p0 :: p1 :: p2 :: p3 :: p4 :: p5 :: o6 :: o7 :: o8 :: o9 :: []).toArray #[true, true, true, true, true, true, true, true, true, true] = [])
    (q7 : o6.guard = none) (q0 : o7.guard = none) (q1 : o8.guard = none) (q2 : o9.guard = none) (q3 : o9.dst = none)
    (e7 : (execOp a.eval o6).run P w = .ok (.value v) w)
    (e0 : (execOp (a.put o6.dst v).eval o7).run P w = .ok (.value v0) w) (e0' : (execOp ((a.put o6.dst v).put o8.dst v1).eval o7).run P w = .ok (.value v0) w)
    (e1 : (execOp (a.put o6.dst v).eval o8).run P w = .ok (.value v1) w) (e1a : (execOp ((a.put o6.dst v).put o7.dst v0).eval o8).run P w = .ok (.value v1) w) (e1b : (execOp ((a.put o6.dst v).put o7.dst v0).eval o8).run P w' = .ok (.value v1) w')
    (e2 : (execOp ((a.put o6.dst v).put o7.dst v0).eval o9).run P w = .ok .skip w') (e2a : (execOp (((a.put o6.dst v).put o7.dst v0).put o8.dst v1).eval o9).run P w = .ok .skip w')
    (comm : ((a.put o6.dst v).put o8.dst v1).put o7.dst v0 = ((a.put o6.dst v).put o7.dst v0).put o8.dst v1)
    (h : Q .normal (((a.put o6.dst v).put o7.dst v0).put o8.dst v1) w') :
    wpAny P .any (p0 :: p1 :: p2 :: p3 :: p4 :: p5 :: o6 :: o7 :: o8 :: o9 :: []).toArray Q 4 #[true, true, true, true, true, true, false, false, false, false] a w := by
  refine any_step [6] r7 (by simp) fun i hi => ?_
  simp only [List.mem_cons, List.not_mem_nil, or_false] at hi
  subst hi
  refine wpOp_value (o := o6) rfl q7 e7 ?_
  exact any_two (i0 := 7) (i1 := 8) (i2 := 9) (o0 := o7) (o1 := o8) (o2 := o9) _ rfl rfl rfl r0 r1 r2 r3 r4 r5 (by decide) (by decide) q0 q1 q2 q3 e0 e0' e1 e1a e1b e2 e2a comm h

/-- The header of a field alone. -/
def fh (f v : Int) : List Int := putN Z13 (atOf f) (sizeOfF f) v (sizeOfF f)
theorem Z13_byt : Byt Z13 := byt_of _ rfl (by decide)
theorem fh_byt (f v : Int) (h0 : 0 ≤ f) (h1 : f < 5) : Byt (fh f v) := putN_byt Z13 Z13_byt _ _ _ (place_facts f h0 h1).2.2.1

set_option maxHeartbeats 2000000 in
theorem begins_any (f v : Int) (k : Nat) (w : World) (h0 : 0 ≤ f) (h1 : f < 5) (hv0 : 0 ≤ v) (hv1 : v < 4294967296) (hvw : v < 2 ^ (8 * sizeOfF f)) (hk : k ≤ 8 * sizeOfF f) (hP : Places w) :
    Calls Tryz.prog 53 #[.int .i64 f, .int .u32 v, .int .i64 (k : Int)] w fun e w' => e = .returned (.agg (cv (frV (fh f v) (8 * atOf f) k) (frM (8 * atOf f) k))) ∧ Below w.heap.size w w' := by
  have P1 : Hid (∀ W, Places W → Calls Tryz.prog 82 #[.int .i64 f] W fun e w' => e = .returned (.tuple #[.int .i64 (8 * (atOf f : Int)), .int .i64 (8 * (sizeOfF f : Int)), .int .i64 0]) ∧ Below W.heap.size W w') := place_at f h0 h1
  have P2 : Hid (∀ W, Places W → Calls Tryz.prog 83 #[.agg zero26, .int .i64 f, .int .u32 v] W fun e w' => e = .returned (.tuple #[.agg (hv (fh f v)), .int .i64 0]) ∧ Below W.heap.size W w') := fun W hW => with_ok Z13 Z13_byt f v W h0 h1 hv0 hv1 hW hvw
  have hpf := place_facts f h0 h1
  have hLb := fh_byt f v h0 h1
  obtain ⟨F, hF⟩ : ∃ F, F = 8 * atOf f := ⟨_, rfl⟩
  obtain ⟨Wd, hWd⟩ : ∃ Wd, Wd = 8 * sizeOfF f := ⟨_, rfl⟩
  obtain ⟨L, hL⟩ : ∃ L, L = fh f v := ⟨_, rfl⟩
  have eF : (8 * (atOf f : Int)) = (F : Int) := by rw [hF]; omega
  have eW : (8 * (sizeOfF f : Int)) = (Wd : Int) := by rw [hWd]; omega
  have hFk : F + k ≤ 104 := by omega
  rw [eF, eW] at P1
  rw [← hL] at P2 hLb
  rw [← hF, ← hL]
  have HLB : Hid (Byt L) := hLb
  have hLl := hLb.1
  have hpos := hP.pos
  clear hpf hF hWd hL eF eW hk hv0 hv1 hvw h0 h1 hLb
  have B0 : Below w.heap.size w (w.alloc (.cells zeroC 37)) := (Below.refl _ _).alloc (Nat.le_refl _) _
  have o0 := heap_new w (.cells zeroC 37) _ rfl
  go_enter Tryz.func53, Tryz.ntmps53
  go_wp2_with fail
  refine (P1.out _ (hP.later hpos B0)).mono ?_
  rintro e w1 ⟨rfl, hb1⟩
  have B1 := B0.trans (hb1.mono B0.size)
  have o1 : w1.heap[w.heap.size]? = some (.cells zeroC 37 (0, 0)) := by rw [hb1.block _ (by simp)]; exact o0
  clear hb1 o0 B0
  go_wp2_with fail
  refine (P2.out _ (hP.later hpos B1)).mono ?_
  rintro e w2 ⟨rfl, hb2⟩
  have B2 := B1.trans (hb2.mono B1.size)
  have o2 : w2.heap[w.heap.size]? = some (.cells zeroC 37 (0, 0)) := by rw [hb2.block _ (Array.getElem?_eq_some_iff.1 o1).1]; exact o1
  have o3 := heap_past w2 (.cells (hv L) 31) _ _ o2
  have l3 := heap_new w2 (.cells (hv L) 31) _ rfl
  have B3 := B2.alloc B2.size (.cells (hv L) 31)
  have hz2 := B2.size
  clear hb2 o1 B1 o2
  go_wp2_with (first
    | (refine wl_store26 rfl _ _ rfl w2.heap.size L rfl rfl _ (heap_new _ _ _ rfl) rfl hLl _ (setRow_new _ _ _ _ _ rfl) ?_))
  refine (all_any _).mono ?_
  rintro e w3 ⟨rfl, hb3⟩
  have B4 := B3.trans (hb3.mono B3.size)
  have o4 : w3.heap[w.heap.size]? = some (.cells zeroC 37 (0, 0)) := by rw [hb3.block _ (Array.getElem?_eq_some_iff.1 o3).1]; exact o3
  have l4 : w3.heap[w2.heap.size]? = some (.cells (hv L) 31 (0, 0)) := by rw [hb3.block _ (Array.getElem?_eq_some_iff.1 l3).1]; exact l3
  have o5 := heap_past w3 (.cells (cv Z Z) 37) _ _ o4
  have l5 := heap_past w3 (.cells (cv Z Z) 37) _ _ l4
  have c5 := heap_new w3 (.cells (cv Z Z) 37) _ rfl
  have B5 := B4.alloc B4.size (.cells (cv Z Z) 37)
  have hz3 : w2.heap.size < w3.heap.size := (Array.getElem?_eq_some_iff.1 l4).1
  have hZl := Z_byt.1
  clear hb3 o3 l3 B3 o4 l4 B4 B2 hP P1 P2
  go_wp2_with (first
    | (refine wl_storeC rfl _ _ rfl w3.heap.size Z Z rfl rfl _ (heap_new _ _ _ rfl) rfl hZl hZl _ (setRow_new _ _ _ _ _ rfl) ?_))
  go_loopw [13] (fun i wr => ∃ j : Nat, j ≤ k ∧ i = .int .i64 ((F : Int) + (j : Int)) ∧ wr.heap[w.heap.size]? = some (.cells zeroC 37 (0, 0)) ∧ wr.heap[w2.heap.size]? = some (.cells (hv L) 31 (0, 0)) ∧ wr.heap[w3.heap.size]? = some (.cells (cv (frV L F j) (frM F j)) 37 (0, 0)) ∧ Below w.heap.size w wr) (fun i _ => F + k - (intOf i).toNat)
  case atStart => exact ⟨0, Nat.zero_le _, by simp, o5, l5, by rw [frV_0, frM_0]; exact c5, B5⟩
  case round =>
    clear o5 l5 c5 B5
    obtain ⟨j, hj, rfl, o5, l5, c5, B5⟩ := hrel
    have hVl := (frV_byt L F j).1
    have hMl := (frM_byt F j).1
    by_cases hlt : j < k
    · have CB : Hid (∀ W, Calls Tryz.prog 85 #[.agg (hv L), .int .i64 ((F : Int) + (j : Int))] W fun e w' => e = .returned (.bool (bt L (F + j))) ∧ Below W.heap.size W w') := fun W => hbit_nat L HLB.out (F + j) (by omega) W
      have CF : Hid (∀ W, Calls Tryz.prog 84 #[.agg (cv (frV L F j) (frM F j)), .int .i64 ((F : Int) + (j : Int)), .bool (bt L (F + j))] W fun e w' => e = .returned (.tuple #[.agg (cv (frV L F (j + 1)) (frM F (j + 1))), .int .i64 0]) ∧ Below W.heap.size W w') := fun W => by
        have := fix_in (frV L F j) (frM F j) (frV_byt _ _ _) (frM_byt _ _) (F + j) (bt L (F + j)) (by omega) W
        rw [fixV_step, fixM_step] at this
        exact this
      have hVl2 := (frV_byt L F (j + 1)).1
      have hMl2 := (frM_byt F (j + 1)).1
      obtain ⟨V, hV⟩ : ∃ V, V = frV L F j := ⟨_, rfl⟩
      obtain ⟨M, hM⟩ : ∃ M, M = frM F j := ⟨_, rfl⟩
      obtain ⟨V2, hV2⟩ : ∃ V2, V2 = frV L F (j + 1) := ⟨_, rfl⟩
      obtain ⟨M2, hM2⟩ : ∃ M2, M2 = frM F (j + 1) := ⟨_, rfl⟩
      obtain ⟨b, hb⟩ : ∃ b, b = bt L (F + j) := ⟨_, rfl⟩
      rw [← hb] at CB CF
      rw [← hV, ← hM, ← hV2, ← hM2] at CF
      rw [← hV] at hVl c5
      rw [← hM] at hMl c5
      rw [← hV2] at hVl2
      rw [← hM2] at hMl2
      have HV2 : Hid (V2 = frV L F (j + 1)) := hV2
      have HM2 : Hid (M2 = frM F (j + 1)) := hM2
      clear hV hM hV2 hM2 hb
      go_wp2_with fail
      have ne1 := Later.ne wr
      refine wp_region_head 6 4 #[true, true, true, true, true, true, false, false, false, false] (by kernel_rfl) (by kernel_rfl) (by kernel_rfl) (by kernel_rfl) (by kernel_rfl) (by kernel_rfl) rfl ?_
      simp only [List.take_succ_cons, List.take_zero]
      refine qlC rfl _ rfl w3.heap.size rfl V M c5 hVl hMl ?_
      simp only [Act.put, List.setIfInBounds_toArray, List.set_cons_succ, List.set_cons_zero]
      go_big_quiet_step (fail)
      refine qlH rfl _ rfl w2.heap.size rfl L l5 hLl ?_
      simp only [Act.put, List.setIfInBounds_toArray, List.set_cons_succ, List.set_cons_zero]
      go_big_quiet_step (fail)
      go_big_quiet_want; go_big_quiet_op
      refine ⟨_, fun u => Calls.later_of (CB.out u.world), ?_⟩
      go_big_quiet_on
      go_big_quiet_want; go_big_quiet_op
      refine ⟨_, fun u => Calls.later_of (CF.out u.world), ?_⟩
      go_big_quiet_on
      refine wpQuiet_nil ?_
      rintro w' ⟨u, rfl⟩
      have k0 := later_block o5 _ ⟨u, rfl⟩
      have k1 := later_block l5 _ ⟨u, rfl⟩
      have k2 := later_block c5 _ ⟨u, rfl⟩
      have hb2 := B5.trans (u.below.mono B5.size)
      clear o5 l5 c5 B5 ne1 CB CF
      refine any_fix6 (v := .tuple #[.agg (cv V2 M2), .int .i64 0]) (v0 := .agg (cv V2 M2)) (v1 := .int .i64 0) (w' := u.world.setRow w3.heap.size (cv V2 M2)) (by kernel_rfl) (by kernel_rfl) (by kernel_rfl) (by kernel_rfl) (by kernel_rfl) (by kernel_rfl) (by kernel_rfl) rfl rfl rfl rfl rfl (run_move _ _ _ _ _ _ rfl rfl)
        (run_extract _ _ _ _ _ _ _ _ rfl rfl rfl) (run_extract _ _ _ _ _ _ _ _ rfl rfl rfl) (run_extract _ _ _ _ _ _ _ _ rfl rfl rfl) (run_extract _ _ _ _ _ _ _ _ rfl rfl rfl) (run_extract _ _ _ _ _ _ _ _ rfl rfl rfl)
        (run_storeC _ _ _ _ _ rfl w3.heap.size _ _ rfl rfl _ k2 (cv_size _ _ hVl hMl) hVl2 hMl2) (run_storeC _ _ _ _ _ rfl w3.heap.size _ _ rfl rfl _ k2 (cv_size _ _ hVl hMl) hVl2 hMl2) rfl ?_
      simp only [Act.put, List.setIfInBounds_toArray, List.set_cons_succ, List.set_cons_zero]
      go_wp2_with fail
      go_roundw
      case rel => exact ⟨j + 1, by omega, by go_num, (setRow_other _ _ _ _ (by omega)).trans k0, (setRow_other _ _ _ _ (by omega)).trans k1, by rw [← HV2.out, ← HM2.out]; exact setRow_heap _ _ _ _ _ _ k2, below_setRow hb2 (by omega) _⟩
      case measure => simp [intOf]; omega
    · obtain rfl : j = k := by omega
      go_wp2_with (first
        | (refine wl_loadC rfl _ rfl w3.heap.size rfl (frV L F j) (frM F j) c5 hVl hMl ?_)
        | (refine wl_storeC rfl _ _ rfl w.heap.size (frV L F j) (frM F j) rfl rfl _ o5 rfl hVl hMl _ rfl ?_))
      refine retC (p := 6) rfl rfl w.heap.size rfl (frV L F j) (frM F j) hVl hMl (setRow_heap _ _ _ _ _ _ o5) ⟨rfl, ?_⟩
      exact below_setRow B5 (Nat.le_refl _) _
end Go.Proofs.YtnbklmmampdbfaaGreatDoor
namespace Go.Proofs.YtnbklmmampdbfaaGreatDoor
open Go Go.RowKit
set_option maxRecDepth 20000

set_option maxHeartbeats 2000000 in
theorem front_any (L : List Int) (hL : Byt L) (f : Int) (k : Nat) (w : World) (h0 : 0 ≤ f) (h1 : f < 5) (hk : k ≤ 8 * sizeOfF f) :
    Calls Tryz.prog 59 #[.agg (hv L), .int .i64 f, .int .i64 (k : Int)] w fun e w' => e = .returned (.agg (cv (frV L (8 * atOf f) k) (frM (8 * atOf f) k))) ∧ Below w.heap.size w w' := by
  have C17 : Hid (∀ W, Calls Tryz.prog 86 #[.int .i64 f] W fun e w' => e = .returned (.int .i64 ((8 * atOf f : Nat) : Int)) ∧ w' = W) := first_at f h0 h1
  have hpf := place_facts f h0 h1
  obtain ⟨F, hF⟩ : ∃ F, F = 8 * atOf f := ⟨_, rfl⟩
  have hFk : F + k ≤ 104 := by omega
  rw [← hF] at C17 ⊢
  have HLB : Hid (Byt L) := hL
  have hLl := hL.1
  have hZl := Z_byt.1
  clear hpf hF hk h0 h1 hL
  have o0 := heap_past ((w.alloc (.cells (hv L) 31)).alloc (.cells zeroC 37)) (.cells (cv Z Z) 37) _ _ (heap_past (w.alloc (.cells (hv L) 31)) (.cells zeroC 37) _ _ (heap_new w (.cells (hv L) 31) _ rfl))
  have o1 := heap_past ((w.alloc (.cells (hv L) 31)).alloc (.cells zeroC 37)) (.cells (cv Z Z) 37) _ _ (heap_new (w.alloc (.cells (hv L) 31)) (.cells zeroC 37) (w.heap.size + 1) (by simp))
  have o2 := heap_new ((w.alloc (.cells (hv L) 31)).alloc (.cells zeroC 37)) (.cells (cv Z Z) 37) (w.heap.size + 2) (by simp)
  have B0 : Below w.heap.size w (((w.alloc (.cells (hv L) 31)).alloc (.cells zeroC 37)).alloc (.cells (cv Z Z) 37)) := (((Below.refl _ _).alloc (Nat.le_refl _) _).alloc (by simp) _).alloc (by simp; omega) _
  go_enter Tryz.func59, Tryz.ntmps59
  go_wp2_with (first
    | (refine wl_storeC rfl _ _ rfl (w.heap.size + 2) Z Z rfl (by rw [← zeroC_eq]; rfl) _ (heap_new _ _ _ (by simp)) rfl hZl hZl _ (setRow_new _ _ _ _ _ (by simp)) ?_))
  go_loopw [8] (fun i wr => ∃ j : Nat, j ≤ k ∧ i = .int .i64 (j : Int) ∧ wr.heap[w.heap.size]? = some (.cells (hv L) 31 (0, 0)) ∧ wr.heap[w.heap.size + 1]? = some (.cells zeroC 37 (0, 0)) ∧ wr.heap[w.heap.size + 2]? = some (.cells (cv (frV L F j) (frM F j)) 37 (0, 0)) ∧ Below w.heap.size w wr) (fun i _ => k - (intOf i).toNat)
  case atStart => exact ⟨0, Nat.zero_le _, rfl, o0, o1, by rw [frV_0, frM_0]; exact o2, B0⟩
  case round =>
    clear o0 o1 o2 B0
    obtain ⟨j, hj, rfl, l5, o5, c5, B5⟩ := hrel
    have hVl := (frV_byt L F j).1
    have hMl := (frM_byt F j).1
    by_cases hlt : j < k
    · have CB : Hid (∀ W, Calls Tryz.prog 89 #[.agg (hv L), .int .i64 ((F : Int) + (j : Int))] W fun e w' => e = .returned (.bool (bt L (F + j))) ∧ Below W.heap.size W w') := fun W => by
        have := refBit_any L HLB.out ((F + j : Nat) : Int) W
        rw [bitB_bt L (F + j) (by omega)] at this
        exact this
      have hVl2 := (frV_byt L F (j + 1)).1
      have hMl2 := (frM_byt F (j + 1)).1
      have CS : Hid (∀ W, Calls Tryz.prog 61 #[.agg (cv (frV L F j) (frM F j)), .int .i64 ((F : Int) + (j : Int)), .int .i64 (if bt L (F + j) then 1 else 0)] W fun e w' => e = .returned (.agg (cv (frV L F (j + 1)) (frM F (j + 1)))) ∧ Below W.heap.size W w') := fun W => by
        have := rset_any (frV L F j) (frM F j) (frV_byt _ _ _) (frM_byt _ _) (F + j) (by omega) (if bt L (F + j) then 1 else 0) W
        rw [show ((if bt L (F + j) then (1 : Int) else 0) == 1) = bt L (F + j) by cases bt L (F + j) <;> rfl, show ((if bt L (F + j) then (1 : Int) else 0) != 2) = true by cases bt L (F + j) <;> rfl, setV_step, setM_step] at this
        exact this
      obtain ⟨V, hV⟩ : ∃ V, V = frV L F j := ⟨_, rfl⟩
      obtain ⟨M, hM⟩ : ∃ M, M = frM F j := ⟨_, rfl⟩
      obtain ⟨V2, hV2⟩ : ∃ V2, V2 = frV L F (j + 1) := ⟨_, rfl⟩
      obtain ⟨M2, hM2⟩ : ∃ M2, M2 = frM F (j + 1) := ⟨_, rfl⟩
      obtain ⟨b, hb⟩ : ∃ b, b = bt L (F + j) := ⟨_, rfl⟩
      rw [← hb] at CB CS
      rw [← hV, ← hM, ← hV2, ← hM2] at CS
      rw [← hV] at hVl c5
      rw [← hM] at hMl c5
      rw [← hV2] at hVl2
      rw [← hM2] at hMl2
      have HV2 : Hid (V2 = frV L F (j + 1)) := hV2
      have HM2 : Hid (M2 = frM F (j + 1)) := hM2
      clear hV hM hV2 hM2 hb
      go_wp2_with fail
      have ne1 := Later.ne wr
      refine wp_region_later (by kernel_rfl) (by kernel_rfl) ?_
      refine qlH rfl _ rfl w.heap.size rfl L l5 hLl ?_
      simp only [Act.put, List.setIfInBounds_toArray, List.set_cons_succ, List.set_cons_zero]
      go_big_quiet_step (fail)
      go_big_quiet_want; go_big_quiet_op
      refine ⟨_, fun u => Calls.later_same (C17.out u.world), ?_⟩
      go_big_quiet_on
      go_big_quiet_step (fail)
      go_big_quiet_step (fail)
      go_big_quiet_want; go_big_quiet_op
      refine ⟨_, fun u => Calls.later_of (CB.out u.world), ?_⟩
      go_big_quiet_on
      refine wpQuiet_nil ?_
      rintro w' ⟨u, rfl⟩
      have k0 := later_block l5 _ ⟨u, rfl⟩
      have k1 := later_block o5 _ ⟨u, rfl⟩
      have k2 := later_block c5 _ ⟨u, rfl⟩
      have hb2 := B5.trans (u.below.mono B5.size)
      obtain ⟨w5, hw5⟩ : ∃ w5, w5 = u.world := ⟨_, rfl⟩
      rw [← hw5] at k0 k1 k2 hb2 ⊢
      clear l5 o5 c5 B5 ne1 CB hw5
      have ne2 := Later.ne w5
      cases b
      · go_wp2_with fail
        refine wp_region_latertail 7 (by kernel_rfl) (by kernel_rfl) ?_
        simp only [List.take_succ_cons, List.take_zero, List.drop_succ_cons, List.drop_zero]
        refine qlC rfl _ rfl (w.heap.size + 2) rfl V M k2 hVl hMl ?_
        simp only [Act.put, List.setIfInBounds_toArray, List.set_cons_succ, List.set_cons_zero]
        go_big_quiet_step (fail)
        go_big_quiet_want; go_big_quiet_op
        refine ⟨_, fun u => Calls.later_same (C17.out u.world), ?_⟩
        go_big_quiet_on
        go_big_quiet_step (fail)
        go_big_quiet_step (fail)
        go_big_quiet_step (fail)
        go_big_quiet_want; go_big_quiet_op
        refine ⟨_, fun u => Calls.later_of (CS.out u.world), ?_⟩
        go_big_quiet_on
        refine wpQuiet_nil ?_
        rintro w' ⟨u2, rfl⟩
        have p0 := later_block k0 _ ⟨u2, rfl⟩
        have p1 := later_block k1 _ ⟨u2, rfl⟩
        have p2 := later_block k2 _ ⟨u2, rfl⟩
        have hb3 := hb2.trans (u2.below.mono hb2.size)
        clear k0 k1 k2 hb2 ne2 CS
        go_wp2_with (first
          | (refine wl_storeC rfl _ _ rfl (w.heap.size + 2) V2 M2 rfl rfl _ p2 (cv_size _ _ hVl hMl) hVl2 hMl2 _ rfl ?_))
        go_roundw
        case rel => exact ⟨j + 1, by omega, by go_num, (setRow_other _ _ _ _ (by omega)).trans p0, (setRow_other _ _ _ _ (by omega)).trans p1, by rw [← HV2.out, ← HM2.out]; exact setRow_heap _ _ _ _ _ _ p2, below_setRow hb3 (by omega) _⟩
        case measure => simp [intOf]; omega
      · go_wp2_with fail
        refine wp_region_latertail 7 (by kernel_rfl) (by kernel_rfl) ?_
        simp only [List.take_succ_cons, List.take_zero, List.drop_succ_cons, List.drop_zero]
        refine qlC rfl _ rfl (w.heap.size + 2) rfl V M k2 hVl hMl ?_
        simp only [Act.put, List.setIfInBounds_toArray, List.set_cons_succ, List.set_cons_zero]
        go_big_quiet_step (fail)
        go_big_quiet_want; go_big_quiet_op
        refine ⟨_, fun u => Calls.later_same (C17.out u.world), ?_⟩
        go_big_quiet_on
        go_big_quiet_step (fail)
        go_big_quiet_step (fail)
        go_big_quiet_step (fail)
        go_big_quiet_want; go_big_quiet_op
        refine ⟨_, fun u => Calls.later_of (CS.out u.world), ?_⟩
        go_big_quiet_on
        refine wpQuiet_nil ?_
        rintro w' ⟨u2, rfl⟩
        have p0 := later_block k0 _ ⟨u2, rfl⟩
        have p1 := later_block k1 _ ⟨u2, rfl⟩
        have p2 := later_block k2 _ ⟨u2, rfl⟩
        have hb3 := hb2.trans (u2.below.mono hb2.size)
        clear k0 k1 k2 hb2 ne2 CS
        go_wp2_with (first
          | (refine wl_storeC rfl _ _ rfl (w.heap.size + 2) V2 M2 rfl rfl _ p2 (cv_size _ _ hVl hMl) hVl2 hMl2 _ rfl ?_))
        go_roundw
        case rel => exact ⟨j + 1, by omega, by go_num, (setRow_other _ _ _ _ (by omega)).trans p0, (setRow_other _ _ _ _ (by omega)).trans p1, by rw [← HV2.out, ← HM2.out]; exact setRow_heap _ _ _ _ _ _ p2, below_setRow hb3 (by omega) _⟩
        case measure => simp [intOf]; omega
    · obtain rfl : j = k := by omega
      go_wp2_with (first
        | (refine wl_loadC rfl _ rfl (w.heap.size + 2) rfl (frV L F j) (frM F j) c5 hVl hMl ?_)
        | (refine wl_storeC rfl _ _ rfl (w.heap.size + 1) (frV L F j) (frM F j) rfl rfl _ o5 rfl hVl hMl _ rfl ?_))
      refine retC (p := 6) rfl rfl (w.heap.size + 1) rfl (frV L F j) (frM F j) hVl hMl (setRow_heap _ _ _ _ _ _ o5) ⟨rfl, ?_⟩
      exact below_setRow B5 (by omega) _
end Go.Proofs.YtnbklmmampdbfaaGreatDoor
namespace Go.Proofs.YtnbklmmampdbfaaGreatDoor
open Go Go.RowKit
set_option maxRecDepth 20000

theorem has_meet (V M V' M' H : List Int) (h : meets V M V' M' = true) : has (meetV V M V' M') (meetM M M') H = (has V M H && has V' M' H) := by
  rw [Bool.eq_iff_iff, Bool.and_eq_true, has_iff, has_iff, has_iff]
  have hm := (meets_iff V M V' M').1 h
  have e1 : ∀ i, i < 104 → bt (meetV V M V' M') i = ((bt V i && bt M i) || (bt V' i && bt M' i)) := fun i hi => mk_bt _ i hi
  have e2 : ∀ i, i < 104 → bt (meetM M M') i = (bt M i || bt M' i) := fun i hi => mk_bt _ i hi
  constructor
  · intro g
    constructor
    · intro i hi h1
      have h3 := g i hi (by rw [e2 i hi, h1]; rfl)
      rw [e1 i hi, h1] at h3
      have h4 := hm i hi h1
      revert h3 h4
      cases bt V i <;> cases bt V' i <;> cases bt M' i <;> cases bt H i <;> simp
    · intro i hi h1
      have h3 := g i hi (by rw [e2 i hi, h1]; simp)
      rw [e1 i hi, h1] at h3
      have h4 := fun h => hm i hi h h1
      revert h3 h4
      cases bt V i <;> cases bt V' i <;> cases bt M i <;> cases bt H i <;> simp
  · rintro ⟨g1, g2⟩ i hi h1
    have h3 := g1 i hi
    have h4 := g2 i hi
    rw [e2 i hi] at h1
    rw [e1 i hi]
    revert h1 h3 h4
    cases bt V i <;> cases bt V' i <;> cases bt M i <;> cases bt M' i <;> cases bt H i <;> simp
theorem has_meets {V M V' M' H : List Int} (h : has V M H = true) (h' : has V' M' H = true) : meets V M V' M' = true := by
  rw [has_iff] at h h'
  exact (meets_iff _ _ _ _).2 fun i hi h1 h2 => by rw [h i hi h1, h' i hi h2]
end Go.Proofs.YtnbklmmampdbfaaGreatDoor
namespace Go.Proofs.YtnbklmmampdbfaaGreatDoor
open Go Go.RowKit
set_option maxRecDepth 20000

theorem has_fr (L H : List Int) (F k : Nat) (hFk : F + k ≤ 104) : has (frV L F k) (frM F k) H = true ↔ ∀ i, i < k → bt L (F + i) = bt H (F + i) := by
  rw [has_iff]
  constructor
  · intro h i hi
    have h1 := h (F + i) (by omega) (by rw [frM_bt _ _ _ (by omega)]; simp; omega)
    rw [frV_bt _ _ _ _ (by omega), decide_eq_true (by omega), Bool.true_and] at h1
    exact h1
  · intro h i hi hm
    rw [frM_bt _ _ _ hi, decide_eq_true_eq] at hm
    have h1 := h (i - F) (by omega)
    rw [show F + (i - F) = i by omega] at h1
    rw [frV_bt _ _ _ _ hi, decide_eq_true hm, Bool.true_and]
    exact h1

/-- Numbers with the same first k of W bits are the same without the others. -/
theorem top_eq (W a b : Nat) (ha : a < 2 ^ W) (hb : b < 2 ^ W) : ∀ k, k ≤ W → ((∀ i, i < k → (a / 2 ^ (W - 1 - i) % 2 == 1) = (b / 2 ^ (W - 1 - i) % 2 == 1)) ↔ a / 2 ^ (W - k) = b / 2 ^ (W - k))
  | 0, _ => by
    rw [Nat.sub_zero, Nat.div_eq_of_lt ha, Nat.div_eq_of_lt hb]
    simp
  | k + 1, hk => by
    have ih := top_eq W a b ha hb k (by omega)
    have e : W - k = (W - (k + 1)) + 1 := by omega
    have e2 : W - 1 - k = W - (k + 1) := by omega
    rw [e, Nat.pow_succ, ← Nat.div_div_eq_div_mul, ← Nat.div_div_eq_div_mul] at ih
    constructor
    · intro h
      have h1 := ih.1 fun i hi => h i (by omega)
      have h2 := h k (by omega)
      rw [e2, Bool.eq_iff_iff, beq_iff_eq, beq_iff_eq] at h2
      omega
    · intro h i hi
      rcases Nat.lt_or_ge i k with h3 | h3
      · exact ih.2 (by rw [h]) i h3
      · obtain rfl : i = k := by omega
        rw [e2, h]

theorem fh_bit (f : Int) (v : Nat) (h0 : 0 ≤ f) (h1 : f < 5) (i : Nat) (hi : i < 8 * sizeOfF f) : bt (fh f (v : Int)) (8 * atOf f + i) = (v / 2 ^ (8 * sizeOfF f - 1 - i) % 2 == 1) := by
  have hp := place_facts f h0 h1
  have h2 := (withB_bit Z13 Z13_byt (8 * atOf f) (8 * sizeOfF f) v (by omega) (8 * sizeOfF f) (Nat.le_refl _)).2 (8 * atOf f + i) (by omega)
  rw [withB_put Z13 Z13_byt _ _ _ hp.2.2.1, if_pos (by omega), bitB_bt _ _ (by omega), show 8 * atOf f + 8 * sizeOfF f - 1 - (8 * atOf f + i) = 8 * sizeOfF f - 1 - i by omega] at h2
  exact h2

/-- A field's number. -/
def fld (H : List Int) (f : Int) : Nat := (getN H (atOf f) (sizeOfF f)).toNat
theorem fld_eq (H : List Int) (hH : Byt H) (f : Int) : getN H (atOf f) (sizeOfF f) = (fld H f : Int) := by
  have := (getN_bd H hH (atOf f) (sizeOfF f)).1
  unfold fld; omega
theorem fld_lt (H : List Int) (hH : Byt H) (f : Int) : fld H f < 2 ^ (8 * sizeOfF f) := by
  have h := (getN_bd H hH (atOf f) (sizeOfF f)).2
  rw [fld_eq H hH f] at h
  have h2 : ((fld H f : Nat) : Int) < ((256 ^ sizeOfF f : Nat) : Int) := by rw [Int.natCast_pow]; exact h
  rw [Nat.pow_mul, show 2 ^ 8 = 256 from rfl]
  exact Int.ofNat_lt.1 h2
theorem fld_bit (H : List Int) (hH : Byt H) (f : Int) (h0 : 0 ≤ f) (h1 : f < 5) (i : Nat) (hi : i < 8 * sizeOfF f) : bt H (8 * atOf f + i) = (fld H f / 2 ^ (8 * sizeOfF f - 1 - i) % 2 == 1) := by
  have hp := place_facts f h0 h1
  have h := getN_bit H hH (atOf f) (sizeOfF f) i hp.2.2.1 hi
  rw [bitB_bt _ _ (by omega), fld_eq H hH f] at h
  rw [h, Bool.eq_iff_iff, beq_iff_eq, beq_iff_eq]
  have hc : (fld H f : Int) / 2 ^ (8 * sizeOfF f - 1 - i) = ((fld H f / 2 ^ (8 * sizeOfF f - 1 - i) : Nat) : Int) := by simp
  rw [hc]; omega

/-- A cube of a field's first bits has the headers whose field begins so. -/
theorem has_field (H : List Int) (hH : Byt H) (f : Int) (v k : Nat) (h0 : 0 ≤ f) (h1 : f < 5) (hv : v < 2 ^ (8 * sizeOfF f)) (hk : k ≤ 8 * sizeOfF f) :
    has (frV (fh f (v : Int)) (8 * atOf f) k) (frM (8 * atOf f) k) H = decide (v / 2 ^ (8 * sizeOfF f - k) = fld H f / 2 ^ (8 * sizeOfF f - k)) := by
  have hp := place_facts f h0 h1
  rw [Bool.eq_iff_iff, decide_eq_true_eq, has_fr _ _ _ _ (by omega), ← top_eq (8 * sizeOfF f) v (fld H f) hv (fld_lt H hH f) k hk]
  constructor
  · intro h i hi
    rw [← fh_bit f v h0 h1 i (by omega), ← fld_bit H hH f h0 h1 i (by omega)]
    exact h i hi
  · intro h i hi
    rw [fh_bit f v h0 h1 i (by omega), fld_bit H hH f h0 h1 i (by omega)]
    exact h i hi

theorem ofInt32 (x : Int) (h0 : 0 ≤ x) (h1 : x < 4294967296) : (BitVec.ofInt 32 x).toNat = x.toNat := by
  rw [BitVec.toNat_ofInt]; omega
theorem xor32 (x y : Nat) (hx : x < 4294967296) (hy : y < 4294967296) : bits .xor .u32 (x : Int) (y : Int) = ((x ^^^ y : Nat) : Int) := by
  have e : bits .xor .u32 (x : Int) (y : Int) = ((BitVec.ofInt 32 x ^^^ BitVec.ofInt 32 y).toNat : Int) % 4294967296 := by
    unfold bits
    simp only []
    rw [IntKind.wrap_u32]
    rfl
  rw [e, BitVec.toNat_xor, ofInt32 x (by omega) (by omega), ofInt32 y (by omega) (by omega), Int.toNat_natCast, Int.toNat_natCast]
  have := Nat.xor_lt_two_pow (n := 32) (x := x) (y := y) (by omega) (by omega)
  omega
theorem xor_top (x y n : Nat) : ((x ^^^ y) / 2 ^ n = 0) ↔ (x / 2 ^ n = y / 2 ^ n) := by
  rw [← Nat.shiftRight_eq_div_pow, ← Nat.shiftRight_eq_div_pow, ← Nat.shiftRight_eq_div_pow, Nat.shiftRight_xor_distrib]
  constructor
  · intro h
    have h2 := congrArg (fun z => z ^^^ (y >>> n)) h
    simpa [Nat.xor_assoc] using h2
  · intro h; rw [h]; exact Nat.xor_self _
end Go.Proofs.YtnbklmmampdbfaaGreatDoor
namespace Go.Proofs.YtnbklmmampdbfaaGreatDoor
open Go Go.RowKit
set_option maxRecDepth 20000

theorem size_01 (f : Int) (hf : f = 0 ∨ f = 1) : sizeOfF f = 4 := by rcases hf with rfl | rfl <;> rfl
theorem size_23 (f : Int) (hf : f = 2 ∨ f = 3) : sizeOfF f = 2 := by rcases hf with rfl | rfl <;> rfl
theorem size_4 : sizeOfF 4 = 1 := rfl

/-- The cube of a field's first bits. -/
def pxV (f : Int) (v k : Nat) : List Int := frV (fh f (v : Int)) (8 * atOf f) k
def pxM (f : Int) (k : Nat) : List Int := frM (8 * atOf f) k
theorem pxV_byt (f : Int) (v k : Nat) : Byt (pxV f v k) := frV_byt _ _ _
theorem pxM_byt (f : Int) (k : Nat) : Byt (pxM f k) := frM_byt _ _

theorem begins_at (f : Int) (v k : Nat) (w : World) (h0 : 0 ≤ f) (h1 : f < 5) (hv : v < 2 ^ (8 * sizeOfF f)) (hk : k ≤ 8 * sizeOfF f) (hP : Places w) :
    Calls Tryz.prog 53 #[.int .i64 f, .int .u32 (v : Int), .int .i64 (k : Int)] w fun e w' => e = .returned (.agg (cv (pxV f v k) (pxM f k))) ∧ Below w.heap.size w w' := by
  have hs := (place_facts f h0 h1).2.2.2.1
  have h32 : v < 4294967296 := Nat.lt_of_lt_of_le hv (Nat.le_trans (Nat.pow_le_pow_right (by decide) (show 8 * sizeOfF f ≤ 32 by omega)) (by decide))
  exact begins_any f v k w h0 h1 (by omega) (by omega) (by exact_mod_cast hv) hk hP
theorem rwith_at (f : Int) (v : Nat) (w : World) (h0 : 0 ≤ f) (h1 : f < 5) (hvb : v < 2 ^ (8 * sizeOfF f)) :
    Calls Tryz.prog 58 #[.agg zero26, .int .i64 f, .int .u32 (v : Int)] w fun e w' => e = .returned (.tuple #[.agg (hv (fh f (v : Int))), .int .i64 0]) ∧ Below w.heap.size w w' := by
  have hs := (place_facts f h0 h1).2.2.2.1
  have h32 : v < 4294967296 := Nat.lt_of_lt_of_le hvb (Nat.le_trans (Nat.pow_le_pow_right (by decide) (show 8 * sizeOfF f ≤ 32 by omega)) (by decide))
  exact refWith_ok Z13 Z13_byt f v w h0 h1 (by omega) (by omega) (by exact_mod_cast hvb)
theorem front_at (f : Int) (v k : Nat) (w : World) (h0 : 0 ≤ f) (h1 : f < 5) (hk : k ≤ 8 * sizeOfF f) :
    Calls Tryz.prog 59 #[.agg (hv (fh f (v : Int))), .int .i64 f, .int .i64 (k : Int)] w fun e w' => e = .returned (.agg (cv (pxV f v k) (pxM f k))) ∧ Below w.heap.size w w' :=
  front_any (fh f (v : Int)) (fh_byt f _ h0 h1) f k w h0 h1 hk

set_option maxHeartbeats 1000000 in
theorem prefix_ok (f : Int) (v k : Nat) (w : World) (hf : f = 0 ∨ f = 1) (hv : v < 2 ^ 32) (hk : k ≤ 32) (hP : Places w) :
    Calls Tryz.prog 55 #[.int .i64 f, .int .u32 (v : Int), .int .i64 (k : Int)] w fun e w' => e = .returned (.tuple #[.agg (cv (pxV f v k) (pxM f k)), .int .i64 0]) ∧ Below w.heap.size w w' := by
  have hs := size_01 f hf
  have BG : Hid (∀ W, Places W → Calls Tryz.prog 53 #[.int .i64 f, .int .u32 (v : Int), .int .i64 (k : Int)] W fun e w' => e = .returned (.agg (cv (pxV f v k) (pxM f k))) ∧ Below W.heap.size W w') := fun W hW => begins_at f v k W (by omega) (by omega) (by rw [hs]; exact hv) (by omega) hW
  have B0 : Below w.heap.size w (w.alloc (.cells zeroC 37)) := (Below.refl _ _).alloc (Nat.le_refl _) _
  have o0 := heap_new w (.cells zeroC 37) _ rfl
  have HP : Hid (Places (w.alloc (.cells zeroC 37))) := hP.later hP.pos B0
  have hVl := (pxV_byt f v k).1
  have hMl := (pxM_byt f k).1
  obtain ⟨V, hV⟩ : ∃ V, V = pxV f v k := ⟨_, rfl⟩
  obtain ⟨M, hM⟩ : ∃ M, M = pxM f k := ⟨_, rfl⟩
  rw [← hV] at BG hVl ⊢
  rw [← hM] at BG hMl ⊢
  clear hP hv hs hV hM
  rcases hf with rfl | rfl
  all_goals
    go_enter Tryz.func55, Tryz.ntmps55
    go_wp2_with fail
    refine (BG.out _ HP.out).mono ?_
    rintro e w1 ⟨rfl, hb1⟩
    have o1 : w1.heap[w.heap.size]? = some (.cells zeroC 37 (0, 0)) := by rw [hb1.block _ (by simp)]; exact o0
    have B1 := B0.trans (hb1.mono B0.size)
    go_wp2_with (first
      | (refine wl_storeC rfl _ _ rfl w.heap.size V M rfl rfl _ o1 rfl hVl hMl _ rfl ?_))
    refine retCe (p := 6) (u := 7) rfl rfl w.heap.size rfl V M hVl hMl (setRow_heap _ _ _ _ _ _ o1) _ rfl ⟨rfl, ?_⟩
    exact below_setRow B1 (Nat.le_refl _) _

set_option maxHeartbeats 1000000 in
theorem prefix_no (f v k : Int) (w : World) (h : ¬ ((f = 0 ∨ f = 1) ∧ 0 ≤ k ∧ k ≤ 32)) :
    Calls Tryz.prog 55 #[.int .i64 f, .int .u32 v, .int .i64 k] w fun e w' => e = .returned (.tuple #[.agg (cv Z Z), .int .i64 1]) ∧ Below w.heap.size w w' := by
  have hZl := Z_byt.1
  by_cases hf : f = 0 ∨ f = 1
  · by_cases hk : k < 0
    · rcases hf with rfl | rfl
      all_goals
        go_enter Tryz.func55, Tryz.ntmps55
        go_wp2_with (first
          | (refine wl_storeC rfl _ _ rfl w.heap.size Z Z rfl (by rw [← zeroC_eq]; rfl) _ (heap_new _ _ _ rfl) rfl hZl hZl _ (setRow_new _ _ _ _ _ rfl) ?_))
        refine retCe (p := 6) (u := 7) rfl rfl w.heap.size rfl Z Z hZl hZl (heap_new _ _ _ rfl) _ rfl ⟨rfl, (Below.refl _ _).alloc (Nat.le_refl _) _⟩
    · have hk2 : k > 32 := by omega
      clear h
      rcases hf with rfl | rfl
      all_goals
        go_enter Tryz.func55, Tryz.ntmps55
        go_wp2_with (first
          | (refine wl_storeC rfl _ _ rfl w.heap.size Z Z rfl (by rw [← zeroC_eq]; rfl) _ (heap_new _ _ _ rfl) rfl hZl hZl _ (setRow_new _ _ _ _ _ rfl) ?_))
        refine retCe (p := 6) (u := 7) rfl rfl w.heap.size rfl Z Z hZl hZl (heap_new _ _ _ rfl) _ rfl ⟨rfl, (Below.refl _ _).alloc (Nat.le_refl _) _⟩
  · have e0 : (f == 0) = false := by simp; omega
    have e1 : (f == 1) = false := by simp; omega
    have n0 : ¬ f = 0 := by omega
    have n1 : ¬ f = 1 := by omega
    clear h hf
    go_enter Tryz.func55, Tryz.ntmps55
    go_wp2_with (first
      | (refine wl_storeC rfl _ _ rfl w.heap.size Z Z rfl (by rw [← zeroC_eq]; rfl) _ (heap_new _ _ _ rfl) rfl hZl hZl _ (setRow_new _ _ _ _ _ rfl) ?_))
    refine retCe (p := 6) (u := 7) rfl rfl w.heap.size rfl Z Z hZl hZl (heap_new _ _ _ rfl) _ rfl ⟨rfl, (Below.refl _ _).alloc (Nat.le_refl _) _⟩

set_option maxHeartbeats 1000000 in
theorem rprefix_ok (f : Int) (v k : Nat) (w : World) (hf : f = 0 ∨ f = 1) (hv : v < 2 ^ 32) (hk : k ≤ 32) :
    Calls Tryz.prog 34 #[.int .i64 f, .int .u32 (v : Int), .int .i64 (k : Int)] w fun e w' => e = .returned (.tuple #[.agg (cv (pxV f v k) (pxM f k)), .int .i64 0]) ∧ Below w.heap.size w w' := by
  have hs := size_01 f hf
  have RW : Hid (∀ W, Calls Tryz.prog 58 #[.agg zero26, .int .i64 f, .int .u32 (v : Int)] W fun e w' => e = .returned (.tuple #[.agg (Go.Proofs.YtnbklmmampdbfaaGreatDoor.hv (fh f (v : Int))), .int .i64 0]) ∧ Below W.heap.size W w') := fun W => rwith_at f v W (by omega) (by omega) (by rw [hs]; exact hv)
  have FR : Hid (∀ W, Calls Tryz.prog 59 #[.agg (Go.Proofs.YtnbklmmampdbfaaGreatDoor.hv (fh f (v : Int))), .int .i64 f, .int .i64 (k : Int)] W fun e w' => e = .returned (.agg (cv (pxV f v k) (pxM f k))) ∧ Below W.heap.size W w') := fun W => front_at f v k W (by omega) (by omega) (by omega)
  have B0 : Below w.heap.size w (w.alloc (.cells zeroC 37)) := (Below.refl _ _).alloc (Nat.le_refl _) _
  have o0 := heap_new w (.cells zeroC 37) _ rfl
  have hLl := (fh_byt f (v : Int) (by omega) (by omega)).1
  have hVl := (pxV_byt f v k).1
  have hMl := (pxM_byt f k).1
  obtain ⟨L, hL⟩ : ∃ L, L = fh f (v : Int) := ⟨_, rfl⟩
  obtain ⟨V, hV⟩ : ∃ V, V = pxV f v k := ⟨_, rfl⟩
  obtain ⟨M, hM⟩ : ∃ M, M = pxM f k := ⟨_, rfl⟩
  rw [← hL] at RW FR hLl
  rw [← hV] at FR hVl ⊢
  rw [← hM] at FR hMl ⊢
  clear hv hs hV hM hL
  rcases hf with rfl | rfl
  all_goals
    go_enter Tryz.func34, Tryz.ntmps34
    go_wp2_with fail
    refine (RW.out _).mono ?_
    rintro e w1 ⟨rfl, hb1⟩
    have o1 : w1.heap[w.heap.size]? = some (.cells zeroC 37 (0, 0)) := by rw [hb1.block _ (by simp)]; exact o0
    have B1 := B0.trans (hb1.mono B0.size)
    have l2 := heap_new w1 (.cells (Go.Proofs.YtnbklmmampdbfaaGreatDoor.hv L) 31) _ rfl
    have o2 := heap_past w1 (.cells (Go.Proofs.YtnbklmmampdbfaaGreatDoor.hv L) 31) _ _ o1
    have B2 := B1.alloc B1.size (.cells (Go.Proofs.YtnbklmmampdbfaaGreatDoor.hv L) 31)
    have hz := (Array.getElem?_eq_some_iff.1 o1).1
    go_wp2_with (first
      | (refine wl_store26 rfl _ _ rfl w1.heap.size L rfl rfl _ (heap_new _ _ _ rfl) rfl hLl _ (setRow_new _ _ _ _ _ rfl) ?_)
      | (refine wl_load26 rfl _ rfl w1.heap.size rfl L l2 hLl ?_))
    refine (FR.out _).mono ?_
    rintro e w3 ⟨rfl, hb3⟩
    have o3 : w3.heap[w.heap.size]? = some (.cells zeroC 37 (0, 0)) := by rw [hb3.block _ (Array.getElem?_eq_some_iff.1 o2).1]; exact o2
    have B3 := B2.trans (hb3.mono B2.size)
    go_wp2_with (first
      | (refine wl_storeC rfl _ _ rfl w.heap.size V M rfl rfl _ o3 rfl hVl hMl _ rfl ?_))
    refine retCe (p := 6) (u := 7) rfl rfl w.heap.size rfl V M hVl hMl (setRow_heap _ _ _ _ _ _ o3) _ rfl ⟨rfl, ?_⟩
    exact below_setRow B3 (Nat.le_refl _) _

set_option maxHeartbeats 1000000 in
theorem rprefix_no (f v k : Int) (w : World) (h : ¬ ((f = 0 ∨ f = 1) ∧ 0 ≤ k ∧ k ≤ 32)) :
    Calls Tryz.prog 34 #[.int .i64 f, .int .u32 v, .int .i64 k] w fun e w' => e = .returned (.tuple #[.agg (cv Z Z), .int .i64 1]) ∧ Below w.heap.size w w' := by
  have hZl := Z_byt.1
  by_cases hf : f = 0 ∨ f = 1
  · by_cases hk : k < 0
    · rcases hf with rfl | rfl
      all_goals
        go_enter Tryz.func34, Tryz.ntmps34
        go_wp2_with (first
          | (refine wl_storeC rfl _ _ rfl w.heap.size Z Z rfl (by rw [← zeroC_eq]; rfl) _ (heap_new _ _ _ rfl) rfl hZl hZl _ (setRow_new _ _ _ _ _ rfl) ?_))
        refine retCe (p := 6) (u := 7) rfl rfl w.heap.size rfl Z Z hZl hZl (heap_new _ _ _ rfl) _ rfl ⟨rfl, (Below.refl _ _).alloc (Nat.le_refl _) _⟩
    · have hk2 : k > 32 := by omega
      clear h
      rcases hf with rfl | rfl
      all_goals
        go_enter Tryz.func34, Tryz.ntmps34
        go_wp2_with (first
          | (refine wl_storeC rfl _ _ rfl w.heap.size Z Z rfl (by rw [← zeroC_eq]; rfl) _ (heap_new _ _ _ rfl) rfl hZl hZl _ (setRow_new _ _ _ _ _ rfl) ?_))
        refine retCe (p := 6) (u := 7) rfl rfl w.heap.size rfl Z Z hZl hZl (heap_new _ _ _ rfl) _ rfl ⟨rfl, (Below.refl _ _).alloc (Nat.le_refl _) _⟩
  · have e0 : (f == 0) = false := by simp; omega
    have e1 : (f == 1) = false := by simp; omega
    have n0 : ¬ f = 0 := by omega
    have n1 : ¬ f = 1 := by omega
    clear h hf
    go_enter Tryz.func34, Tryz.ntmps34
    go_wp2_with (first
      | (refine wl_storeC rfl _ _ rfl w.heap.size Z Z rfl (by rw [← zeroC_eq]; rfl) _ (heap_new _ _ _ rfl) rfl hZl hZl _ (setRow_new _ _ _ _ _ rfl) ?_))
    refine retCe (p := 6) (u := 7) rfl rfl w.heap.size rfl Z Z hZl hZl (heap_new _ _ _ rfl) _ rfl ⟨rfl, (Below.refl _ _).alloc (Nat.le_refl _) _⟩
end Go.Proofs.YtnbklmmampdbfaaGreatDoor
namespace Go.Proofs.YtnbklmmampdbfaaGreatDoor
open Go Go.RowKit
set_option maxRecDepth 20000

theorem part_p0 (n b : Int) (w : World) : (part 3 (pv n b) 0).run Tryz.prog w = .ok (.int .i64 n) w := by
  have ha : ∀ w, (isAgg 3).run Tryz.prog w = .ok false w := fun w => by kernel_rfl
  simp [part, ha, Sem.run_bind]
theorem part_p1 (n b : Int) (w : World) : (part 3 (pv n b) 1).run Tryz.prog w = .ok (.int .i64 b) w := by
  have ha : ∀ w, (isAgg 3).run Tryz.prog w = .ok false w := fun w => by kernel_rfl
  simp [part, ha, Sem.run_bind]
theorem eqP (n b : Int) (w : World) : (Op.equalIn 10000 102 (.agg (pv n b)) (.agg (pv n b))).run Tryz.prog w = .ok true w := by
  have e : ∀ a : Int, ∀ w, (Op.equalIn 9999 3 (.int .i64 a) (.int .i64 a)).run Tryz.prog w = .ok true w := fun a w => by
    have := run_equalIn_int (P := Tryz.prog) w 9998 3 .i64 .i64 a a Tryz.underlying3
    simpa using this
  rw [show (10000 : Nat) = 9999 + 1 from rfl, run_equalIn_struct w 9999 102 _ _ (by kernel_rfl) (by kernel_rfl)]
  rw [show (Tryz.prog.fieldsOf 102).toList = [{ name := "Value", type := 3, offset := 0, embedded := false, tag := "", pkgPath := "", byteOffset := 0 }, { name := "Bits", type := 3, offset := 1, embedded := false, tag := "", pkgPath := "", byteOffset := 8 }] from by kernel_rfl]
  simp only [Op.eqFields, ne_eq, String.reduceEq, not_false_eq_true, if_true, Sem.run_bind, part_p0, Result.andThen_ok, e]
  simp [part_p1, e]
theorem egP (op : BinOp) (x y : Operand) (xs ys : Array Value) (w : World) : (eqGuard op 102 x y (.agg xs) (.agg ys)).run Tryz.prog w = .ok () w :=
  run_eqGuard_agg w op 102 x y xs ys (by kernel_rfl)

theorem ran_16 : ran 1 6 = [(1, 16), (2, 15), (4, 15), (6, 16)] := by
  rw [ran, show isR 1 6 = true by decide, if_pos rfl]
  exact rng_16
theorem ranE_16 : ranE 1 6 = 0 := by decide

end Go.Proofs.YtnbklmmampdbfaaGreatDoor
namespace Go.Proofs.YtnbklmmampdbfaaGreatDoor
open Go Go.RowKit
set_option maxRecDepth 20000

theorem ran_mem {l h : Int} {p : Nat × Nat} {k : Nat} (hp : (ran l h)[k]? = some p) : p.2 ≤ 16 ∧ p.1 ≤ 65535 := by
  unfold ran at hp
  by_cases c : isR l h = true
  · rw [if_pos c] at hp
    have hc := (isR_iff l h).1 c
    have := List.mem_of_getElem? hp
    exact ⟨rng_bits this, by have := (rng_mem _ _ _ this).2.1; omega⟩
  · rw [if_neg c] at hp; simp at hp
theorem ran_few (l h : Int) : (ran l h).length ≤ 30 := by
  unfold ran
  by_cases c : isR l h = true
  · rw [if_pos c]
    have hc := (isR_iff l h).1 c
    exact rng_few _ _ (by omega) (by omega)
  · rw [if_neg c]; exact Nat.zero_le _
/-- How many of the pieces have a number. -/
def cntP (P : List (Nat × Nat)) (x : Nat) : Nat := (P.filter fun p => inP p x).length
theorem cntP_take {P : List (Nat × Nat)} {p : Nat × Nat} {k : Nat} (hk : P[k]? = some p) (x : Nat) : cntP (P.take (k + 1)) x = cntP (P.take k) x + (if inP p x then 1 else 0) := by
  unfold cntP
  rw [List.take_add_one, hk, List.filter_append, List.length_append]
  congr 1
  cases h : inP p x <;> simp [h]
theorem cntP_ran (l h : Int) (x : Nat) (c : isR l h = true) : cntP (ran l h) x = if l ≤ (x : Int) ∧ (x : Int) ≤ h then 1 else 0 := by
  have hc := (isR_iff l h).1 c
  unfold cntP ran
  rw [if_pos c, cnt_rng]
  by_cases d : l ≤ (x : Int) ∧ (x : Int) ≤ h
  · rw [if_pos d, if_pos (by omega)]
  · rw [if_neg d, if_neg (by omega)]

end Go.Proofs.YtnbklmmampdbfaaGreatDoor
namespace Go.Proofs.YtnbklmmampdbfaaGreatDoor
open Go Go.RowKit
set_option maxRecDepth 20000

theorem wl_minI {ops : Array Oper} {rest : List Oper} {o : Oper} {a : Act} {w : World} {Q : Exit → Act → World → Prop} (hgd : o.guard = none) (x y : Operand) (ho : o.op = .call { callee := .builtin .min, args := #[x, y], argTypes := #[3, 3] })
    (p q r : Int) (hx : a.eval x = .int .i64 p) (hy : a.eval y = .int .i64 q) (hr : r = min p q) (h : wpList Tryz.prog ops Q rest (a.put o.dst (.int .i64 r)) w) : wpList Tryz.prog ops Q (o :: rest) a w := by
  obtain ⟨dst, op, ty, pos, after, guard⟩ := o
  subst ho
  have hr : (execOp a.eval ⟨dst, .call { callee := .builtin .min, args := #[x, y], argTypes := #[3, 3] }, ty, pos, after, guard⟩).run Tryz.prog w = .ok (.value (.int .i64 r)) w := by
    subst hr
    by_cases h1 : p ≤ q
    · rw [show min p q = p by omega]
      unfold execOp
      simp [resolve, invoke, builtin, hx, hy, Builtin.min_, Builtin.min2]
      all_goals omega
    · rw [show min p q = q by omega]
      unfold execOp
      simp [resolve, invoke, builtin, hx, hy, Builtin.min_, Builtin.min2]
      all_goals omega
  refine wpList_plain hgd fun K hK => ?_
  unfold Oper.wp
  rw [hr]
  exact hK _ _ h
theorem wl_maxI {ops : Array Oper} {rest : List Oper} {o : Oper} {a : Act} {w : World} {Q : Exit → Act → World → Prop} (hgd : o.guard = none) (x y : Operand) (ho : o.op = .call { callee := .builtin .max, args := #[x, y], argTypes := #[3, 3] })
    (p q r : Int) (hx : a.eval x = .int .i64 p) (hy : a.eval y = .int .i64 q) (hr : r = max p q) (h : wpList Tryz.prog ops Q rest (a.put o.dst (.int .i64 r)) w) : wpList Tryz.prog ops Q (o :: rest) a w := by
  obtain ⟨dst, op, ty, pos, after, guard⟩ := o
  subst ho
  have hr : (execOp a.eval ⟨dst, .call { callee := .builtin .max, args := #[x, y], argTypes := #[3, 3] }, ty, pos, after, guard⟩).run Tryz.prog w = .ok (.value (.int .i64 r)) w := by
    subst hr
    by_cases h1 : q ≤ p
    · rw [show max p q = p by omega]
      unfold execOp
      simp [resolve, invoke, builtin, hx, hy, Builtin.max_, Builtin.max2]
      all_goals omega
    · rw [show max p q = q by omega]
      unfold execOp
      simp [resolve, invoke, builtin, hx, hy, Builtin.max_, Builtin.max2]
      all_goals omega
  refine wpList_plain hgd fun K hK => ?_
  unfold Oper.wp
  rw [hr]
  exact hK _ _ h

/-- One cube appended to one's own row of them, and where the new row lies. -/
theorem wl_append1 {ops : Array Oper} {rest : List Oper} {o : Oper} {a : Act} {w : World} {Q : Exit → Act → World → Prop} (hgd : o.guard = none) (s x : Operand) (ho : o.op = .call { callee := .builtin .append, args := #[s, x], argTypes := #[49, 49] })
    (base : Nat) (v : Value) (C : List (List Int × List Int)) (V M : List Int) (hV : V.length = 13) (hM : M.length = 13) (hs : a.eval s = v) (hown : w.ownsRow base 37 26 v C.length (ccells C)) (g cap : Nat) (hx : a.eval x = .slice (some ⟨g, 0, none⟩) 1 cap) (hg : w.heap[g]? = some (.cells (cv V M) 37 (0, 0)))
    (hn : C.length ≤ 1000000) (hbase : base ≤ w.heap.size)
    (h : ∀ v' w', w'.ownsRow base 37 26 v' (C ++ [(V, M)]).length (ccells (C ++ [(V, M)])) → w.grownBy w' v.ownBlock → (v'.ownBlock = v.ownBlock ∨ v'.ownBlock = some w.heap.size) → wpList Tryz.prog ops Q rest (a.put o.dst v') w') : wpList Tryz.prog ops Q (o :: rest) a w := by
  obtain ⟨i0, hi, hz0, hz1, hz2⟩ := infoC
  have hsz := cv_size V M hV hM
  refine wpList_append_own_at _ hgd s x 49 ho base 37 i0 (.agg zeroC) 26 26 Tryz.underlying49 hi hz0 hz1 hz2 rfl (by decide) v _ _ hs hown ⟨g, 0, none⟩ 1 cap (cv V M).toList hx (by simp [hsz]) (fun j y hy => ?_) (fun u hu => ?_) (by unfold maxLen; omega) (by omega) hbase ?_
  · have hadd : (⟨g, 0, none⟩ : Addr).add j = ⟨g, j, none⟩ := by unfold Addr.add; split <;> simp_all
    rw [hadd, cell_of_row w g j _ _ _ hg, ← hy]
    simp
  · exact (Array.all_eq_true_iff_forall_mem.1 (cv_one V M)) u (by simpa using hu)
  · intro v' w' h5 h6 _ h7
    refine h v' w' ?_ h6 h7
    rw [List.length_append, ccells_append, ccells_one]; exact h5

theorem own_ne {w : World} {B : Nat} {e : TypeId} {s : Nat} {v : Value} {n : Nat} {xs : List Value} (h : w.ownsRow B e s v n xs) {g : Nat} (hg : w.heap.size ≤ g) : v.ownBlock ≠ some g := fun hq => by
  have := (h.lt g hq).2
  omega
end Go.Proofs.YtnbklmmampdbfaaGreatDoor
namespace Go.Proofs.YtnbklmmampdbfaaGreatDoor
open Go Go.RowKit
set_option maxRecDepth 20000

/-- The cubes of some pieces. -/
def portC (f : Int) (P : List (Nat × Nat)) : List (List Int × List Int) := P.map fun p => (pxV f p.1 p.2, pxM f p.2)
theorem portC_take {f : Int} {P : List (Nat × Nat)} {p : Nat × Nat} {k : Nat} (hk : P[k]? = some p) : portC f (P.take (k + 1)) = portC f (P.take k) ++ [(pxV f p.1 p.2, pxM f p.2)] := by
  unfold portC
  rw [List.take_add_one, hk]
  simp
theorem byts_portC (f : Int) (P : List (Nat × Nat)) : Byts (portC f P) := fun c hc => by
  unfold portC at hc
  rw [List.mem_map] at hc
  obtain ⟨p, _, rfl⟩ := hc
  exact ⟨pxV_byt _ _ _, pxM_byt _ _⟩
theorem portC_len (f : Int) (P : List (Nat × Nat)) : (portC f P).length = P.length := by simp [portC]

set_option maxHeartbeats 2000000 in
theorem ports_ok (f l h : Int) (hf : f = 2 ∨ f = 3) (hr : isR l h = true) (w : World) (hP : Places w) :
    Calls Tryz.prog 29 #[.int .i64 f, .int .i64 l, .int .i64 h] w fun e w' => ∃ u, e = .returned (.tuple #[u, .int .i64 0]) ∧ w'.ownsRow w.heap.size 37 26 u (portC f (ran l h)).length (ccells (portC f (ran l h))) ∧ Below w.heap.size w w' := by
  have hs := size_23 f hf
  have R1 : Hid (∀ W, Calls Tryz.prog 52 #[.int .i64 l, .int .i64 h] W fun e w' => ∃ u, e = .returned (.tuple #[u, .int .i64 0]) ∧ w'.ownsRow W.heap.size 102 2 u (ran l h).length (pcells (ran l h)) ∧ Below W.heap.size W w') := fun W => by
    have := range_any l h W
    rwa [show ranE l h = 0 by rw [ranE, if_pos hr]] at this
  have HM : Hid (∀ (k : Nat) (p : Nat × Nat), (ran l h)[k]? = some p → p.2 ≤ 16 ∧ p.1 ≤ 65535) := fun k p => ran_mem
  have BG : Hid (∀ a b : Nat, a ≤ 65535 → b ≤ 16 → ∀ W, Places W → Calls Tryz.prog 53 #[.int .i64 f, .int .u32 (a : Int), .int .i64 (b : Int)] W fun e w' => e = .returned (.agg (cv (pxV f a b) (pxM f b))) ∧ Below W.heap.size W w') := fun a b ha hb W hW => begins_at f a b W (by omega) (by omega) (by rw [hs]; exact Nat.lt_of_le_of_lt ha (by decide)) (by omega) hW
  have hfew := ran_few l h
  have HP : Hid (Places w) := hP
  have hpos := hP.pos
  obtain ⟨P, hPp⟩ : ∃ P, P = ran l h := ⟨_, rfl⟩
  rw [← hPp] at R1 HM hfew ⊢
  obtain ⟨n, hn⟩ : ∃ n, n = P.length := ⟨_, rfl⟩
  have HN : Hid (n = P.length) := hn
  clear hPp hs hP hr
  rcases hf with rfl | rfl
  · go_enter Tryz.func29, Tryz.ntmps29
    go_wp2_with fail
    refine (R1.out _).mono ?_
    rintro e w3 ⟨u, rfl, ho3, hb3⟩
    have S3 := sp_of ho3
    obtain ⟨o, cap, rfl, _, hcap⟩ := S3.slice
    rw [← hn] at S3 hfew ⊢
    have HS3 : Hid (Sp w3 (.slice o n cap) P) := S3
    clear S3 ho3 hn
    go_wp2_with fail
    go_loopw [10, 30] (fun out i wr => ∃ k : Nat, k ≤ n ∧ i = .int .i64 (k : Int) ∧ ∃ D, D = portC 2 (P.take k) ∧ D.length ≤ k ∧ wr.ownsRow w3.heap.size 37 26 out D.length (ccells D) ∧ Below w3.heap.size w3 wr) (fun _ i _ => n - (intOf i).toNat)
    case atStart => exact ⟨0, Nat.zero_le _, rfl, [], rfl, Nat.le_refl _, World.ownsRow_nil _ _ _ _, Below.refl _ _⟩
    case round =>
      obtain ⟨k, hk, rfl, D, hD, hDl, hown, hb⟩ := hrel
      have HD : Hid (D = portC 2 (P.take k)) := hD
      have OWN : Hid (wr.ownsRow w3.heap.size 37 26 u10 D.length (ccells D)) := hown
      have B1 := hb3.trans (hb.mono hb3.size)
      have hz := B1.size
      clear hD hown
      by_cases hlt : k < n
      · obtain ⟨g, off, cur, t, fr, p, rfl, hg, hc, hpk⟩ := HS3.out.at k hlt
        have hp2 := HM.out k p hpk
        have k1 : wr.heap[g]? = some (.cells cur t fr) := (hb.block g (Array.getElem?_eq_some_iff.1 hg).1).trans hg
        have HT : Hid (portC 2 (P.take (k + 1)) = portC 2 (P.take k) ++ [(pxV 2 p.1 p.2, pxM 2 p.2)]) := portC_take hpk
        obtain ⟨a, b⟩ := p
        simp only at hp2 hc HT
        have H1 : Hid (∀ j, j < 2 → cur[off + k * 2 + j]? = (pv (a : Int) (b : Int))[j]?) := hc
        have B2 := B1.alloc B1.size (.cells (pv (a : Int) (b : Int)) 102)
        have DG : Hid (∀ W, Places W → Calls Tryz.prog 53 #[.int .i64 2, .int .u32 (a : Int), .int .i64 (b : Int)] W fun e w' => e = .returned (.agg (cv (pxV 2 a b) (pxM 2 b))) ∧ Below W.heap.size W w') := BG.out a b hp2.2 hp2.1
        have hVl := (pxV_byt 2 a b).1
        have hMl := (pxM_byt 2 b).1
        obtain ⟨V, hV⟩ : ∃ V, V = pxV 2 a b := ⟨_, rfl⟩
        obtain ⟨M, hM⟩ : ∃ M, M = pxM 2 b := ⟨_, rfl⟩
        rw [← hV] at DG HT hVl
        rw [← hM] at DG HT hMl
        have OWN2 : Hid ((wr.alloc (.cells (pv (a : Int) (b : Int)) 102)).ownsRow w3.heap.size 37 26 u10 D.length (ccells D)) := OWN.out.alloc _
        have HPL : Hid (Places (wr.alloc (.cells (pv (a : Int) (b : Int)) 102))) := HP.out.later hpos B2
        have hb4 := hb.alloc hb.size (.cells (pv (a : Int) (b : Int)) 102)
        obtain ⟨ha1, ha2⟩ := hp2
        clear hg hc hpk hV hM hb OWN
        go_wp2_with (first
          | (refine wl_loadP rfl _ rfl g (off + k * 2) rfl cur t fr (a : Int) (b : Int) k1 H1.out ?_))
        refine (DG.out _ HPL.out).mono ?_
        rintro e w5 ⟨rfl, hb5⟩
        have B5 := B2.trans (hb5.mono B2.size)
        have hb6 := hb4.trans (hb5.mono hb4.size)
        have OWN5 : Hid (w5.ownsRow w3.heap.size 37 26 u10 D.length (ccells D)) := own_below OWN2.out hb5
        have hz5 := B5.size
        have hz6 := hb6.size
        clear hb5 OWN2 B2 hb4 k1 HPL DG
        go_wp2_with (first
          | (refine wl_build1 rfl _ rfl V M hVl hMl rfl ?_)
          | (at_builtin; refine of_stopped ?_))
        unfold Stopped
        have c7 := heap_new w5 (.cells (cv V M) 37) _ rfl
        have B7 := B5.alloc B5.size (.cells (cv V M) 37)
        have hb7 := hb6.alloc hb6.size (.cells (cv V M) 37)
        have OWN7 : Hid ((w5.alloc (.cells (cv V M) 37)).ownsRow w3.heap.size 37 26 u10 D.length (ccells D)) := OWN5.out.alloc _
        refine wl_append1 rfl _ _ rfl w3.heap.size _ D V M hVl hMl rfl OWN7.out _ 1 rfl c7 (by omega) (by simp; omega) ?_
        intro v' w8 hown8 hgr hat
        have hb8 : Below w3.heap.size w3 w8 := hb7.grown hgr (by simp; omega) (fun q hq => (OWN7.out.lt q hq).1)
        have HD8 : Hid (D ++ [(V, M)] = portC 2 (P.take (k + 1))) := by
          show _ = _
          rw [HT.out, HD.out]
        have OWN8 : Hid (w8.ownsRow w3.heap.size 37 26 v' (D ++ [(V, M)]).length (ccells (D ++ [(V, M)]))) := hown8
        have HL8 : Hid ((D ++ [(V, M)]).length ≤ k + 1) := by
          show _ ≤ _
          rw [List.length_append]; simpa using hDl
        simp only [Act.put, List.setIfInBounds_toArray, List.set_cons_succ, List.set_cons_zero]
        clear hown8 hgr hat c7 B7 hb7 OWN7 OWN5
        go_wp2_with fail
        go_roundw
        case rel => exact ⟨k + 1, by omega, by go_num, D ++ [(V, M)], HD8.out, HL8.out, OWN8.out, hb8⟩
        case measure => simp [intOf]; omega
      · obtain rfl : k = n := by omega
        have HE : Hid (D = portC 2 P) := by
          show _ = _
          rw [HD.out, HN.out, List.take_length]
        go_wp2_with fail
        go_ret2
        refine ⟨u10, rfl, ?_, B1⟩
        rw [← HE.out]
        exact own_base OWN.out hb3.size
  · go_enter Tryz.func29, Tryz.ntmps29
    go_wp2_with fail
    refine (R1.out _).mono ?_
    rintro e w3 ⟨u, rfl, ho3, hb3⟩
    have S3 := sp_of ho3
    obtain ⟨o, cap, rfl, _, hcap⟩ := S3.slice
    rw [← hn] at S3 hfew ⊢
    have HS3 : Hid (Sp w3 (.slice o n cap) P) := S3
    clear S3 ho3 hn
    go_wp2_with fail
    go_loopw [10, 30] (fun out i wr => ∃ k : Nat, k ≤ n ∧ i = .int .i64 (k : Int) ∧ ∃ D, D = portC 3 (P.take k) ∧ D.length ≤ k ∧ wr.ownsRow w3.heap.size 37 26 out D.length (ccells D) ∧ Below w3.heap.size w3 wr) (fun _ i _ => n - (intOf i).toNat)
    case atStart => exact ⟨0, Nat.zero_le _, rfl, [], rfl, Nat.le_refl _, World.ownsRow_nil _ _ _ _, Below.refl _ _⟩
    case round =>
      obtain ⟨k, hk, rfl, D, hD, hDl, hown, hb⟩ := hrel
      have HD : Hid (D = portC 3 (P.take k)) := hD
      have OWN : Hid (wr.ownsRow w3.heap.size 37 26 u10 D.length (ccells D)) := hown
      have B1 := hb3.trans (hb.mono hb3.size)
      have hz := B1.size
      clear hD hown
      by_cases hlt : k < n
      · obtain ⟨g, off, cur, t, fr, p, rfl, hg, hc, hpk⟩ := HS3.out.at k hlt
        have hp2 := HM.out k p hpk
        have k1 : wr.heap[g]? = some (.cells cur t fr) := (hb.block g (Array.getElem?_eq_some_iff.1 hg).1).trans hg
        have HT : Hid (portC 3 (P.take (k + 1)) = portC 3 (P.take k) ++ [(pxV 3 p.1 p.2, pxM 3 p.2)]) := portC_take hpk
        obtain ⟨a, b⟩ := p
        simp only at hp2 hc HT
        have H1 : Hid (∀ j, j < 2 → cur[off + k * 2 + j]? = (pv (a : Int) (b : Int))[j]?) := hc
        have B2 := B1.alloc B1.size (.cells (pv (a : Int) (b : Int)) 102)
        have DG : Hid (∀ W, Places W → Calls Tryz.prog 53 #[.int .i64 3, .int .u32 (a : Int), .int .i64 (b : Int)] W fun e w' => e = .returned (.agg (cv (pxV 3 a b) (pxM 3 b))) ∧ Below W.heap.size W w') := BG.out a b hp2.2 hp2.1
        have hVl := (pxV_byt 3 a b).1
        have hMl := (pxM_byt 3 b).1
        obtain ⟨V, hV⟩ : ∃ V, V = pxV 3 a b := ⟨_, rfl⟩
        obtain ⟨M, hM⟩ : ∃ M, M = pxM 3 b := ⟨_, rfl⟩
        rw [← hV] at DG HT hVl
        rw [← hM] at DG HT hMl
        have OWN2 : Hid ((wr.alloc (.cells (pv (a : Int) (b : Int)) 102)).ownsRow w3.heap.size 37 26 u10 D.length (ccells D)) := OWN.out.alloc _
        have HPL : Hid (Places (wr.alloc (.cells (pv (a : Int) (b : Int)) 102))) := HP.out.later hpos B2
        have hb4 := hb.alloc hb.size (.cells (pv (a : Int) (b : Int)) 102)
        obtain ⟨ha1, ha2⟩ := hp2
        clear hg hc hpk hV hM hb OWN
        go_wp2_with (first
          | (refine wl_loadP rfl _ rfl g (off + k * 2) rfl cur t fr (a : Int) (b : Int) k1 H1.out ?_))
        refine (DG.out _ HPL.out).mono ?_
        rintro e w5 ⟨rfl, hb5⟩
        have B5 := B2.trans (hb5.mono B2.size)
        have hb6 := hb4.trans (hb5.mono hb4.size)
        have OWN5 : Hid (w5.ownsRow w3.heap.size 37 26 u10 D.length (ccells D)) := own_below OWN2.out hb5
        have hz5 := B5.size
        have hz6 := hb6.size
        clear hb5 OWN2 B2 hb4 k1 HPL DG
        go_wp2_with (first
          | (refine wl_build1 rfl _ rfl V M hVl hMl rfl ?_)
          | (at_builtin; refine of_stopped ?_))
        unfold Stopped
        have c7 := heap_new w5 (.cells (cv V M) 37) _ rfl
        have B7 := B5.alloc B5.size (.cells (cv V M) 37)
        have hb7 := hb6.alloc hb6.size (.cells (cv V M) 37)
        have OWN7 : Hid ((w5.alloc (.cells (cv V M) 37)).ownsRow w3.heap.size 37 26 u10 D.length (ccells D)) := OWN5.out.alloc _
        refine wl_append1 rfl _ _ rfl w3.heap.size _ D V M hVl hMl rfl OWN7.out _ 1 rfl c7 (by omega) (by simp; omega) ?_
        intro v' w8 hown8 hgr hat
        have hb8 : Below w3.heap.size w3 w8 := hb7.grown hgr (by simp; omega) (fun q hq => (OWN7.out.lt q hq).1)
        have HD8 : Hid (D ++ [(V, M)] = portC 3 (P.take (k + 1))) := by
          show _ = _
          rw [HT.out, HD.out]
        have OWN8 : Hid (w8.ownsRow w3.heap.size 37 26 v' (D ++ [(V, M)]).length (ccells (D ++ [(V, M)]))) := hown8
        have HL8 : Hid ((D ++ [(V, M)]).length ≤ k + 1) := by
          show _ ≤ _
          rw [List.length_append]; simpa using hDl
        simp only [Act.put, List.setIfInBounds_toArray, List.set_cons_succ, List.set_cons_zero]
        clear hown8 hgr hat c7 B7 hb7 OWN7 OWN5
        go_wp2_with fail
        go_roundw
        case rel => exact ⟨k + 1, by omega, by go_num, D ++ [(V, M)], HD8.out, HL8.out, OWN8.out, hb8⟩
        case measure => simp [intOf]; omega
      · obtain rfl : k = n := by omega
        have HE : Hid (D = portC 3 P) := by
          show _ = _
          rw [HD.out, HN.out, List.take_length]
        go_wp2_with fail
        go_ret2
        refine ⟨u10, rfl, ?_, B1⟩
        rw [← HE.out]
        exact own_base OWN.out hb3.size

set_option maxHeartbeats 1000000 in
theorem ports_field (f l h : Int) (hf : ¬ (f = 2 ∨ f = 3)) (w : World) :
    Calls Tryz.prog 29 #[.int .i64 f, .int .i64 l, .int .i64 h] w fun e w' => e = .returned (.tuple #[.slice none 0 0, .int .i64 1]) ∧ w' = w := by
  have n2 : (f != 2) = true := by simp; omega
  have n3 : (f != 3) = true := by simp; omega
  clear hf
  go_enter Tryz.func29, Tryz.ntmps29
  go_wp2_with fail
  go_ret2
  exact ⟨rfl, rfl⟩

set_option maxHeartbeats 1000000 in
theorem ports_range (f l h : Int) (hf : f = 2 ∨ f = 3) (hr : isR l h = false) (w : World) :
    Calls Tryz.prog 29 #[.int .i64 f, .int .i64 l, .int .i64 h] w fun e w' => e = .returned (.tuple #[.slice none 0 0, .int .i64 10]) ∧ w' = w := by
  have R1 : Hid (∀ W, Calls Tryz.prog 52 #[.int .i64 l, .int .i64 h] W fun e w' => e = .returned (.tuple #[.slice none 0 0, .int .i64 10]) ∧ w' = W) := fun W => range_no l h (fun hc => by rw [(isR_iff l h).2 hc] at hr; cases hr) W
  clear hr
  rcases hf with rfl | rfl
  all_goals
    go_enter Tryz.func29, Tryz.ntmps29
    go_wp2_with (first
      | (go_at_call 52; refine (R1.out _).mono ?_; rintro e w' ⟨rfl, rfl⟩))
    go_ret2
    exact ⟨rfl, rfl⟩

/-- A range of a field of ports as cubes, none where there is none. -/
def portP (f l h : Int) : List (List Int × List Int) := if decide (f = 2 ∨ f = 3) && isR l h then portC f (ran l h) else []
def portE (f l h : Int) : Int := if decide (f = 2 ∨ f = 3) then (if isR l h then 0 else 10) else 1
theorem ports_any (f l h : Int) (w : World) (hP : Places w) :
    Calls Tryz.prog 29 #[.int .i64 f, .int .i64 l, .int .i64 h] w fun e w' => ∃ u, e = .returned (.tuple #[u, .int .i64 (portE f l h)]) ∧ Sl w' u (portP f l h) ∧ Below w.heap.size w w' := by
  have none0 : ∀ w' : World, Sl w' (.slice none 0 0) [] := fun w' => sl_of (C := []) (World.ownsRow_nil w' w.heap.size _ _) (fun c hc => absurd hc (by simp))
  unfold portP portE
  by_cases hf : f = 2 ∨ f = 3
  · rw [decide_eq_true hf, if_pos rfl, Bool.true_and]
    cases hr : isR l h
    · refine (ports_range f l h hf hr w).mono ?_
      rintro e w' ⟨rfl, rfl⟩
      exact ⟨_, rfl, none0 _, Below.refl _ _⟩
    · refine (ports_ok f l h hf hr w hP).mono ?_
      rintro e w' ⟨u, rfl, ho, hb⟩
      exact ⟨u, rfl, sl_of ho (byts_portC _ _), hb⟩
  · rw [decide_eq_false hf, if_neg (by simp), Bool.false_and]
    refine (ports_field f l h hf w).mono ?_
    rintro e w' ⟨rfl, rfl⟩
    exact ⟨_, rfl, none0 _, Below.refl _ _⟩
end Go.Proofs.YtnbklmmampdbfaaGreatDoor
namespace Go.Proofs.YtnbklmmampdbfaaGreatDoor
open Go Go.RowKit
set_option maxRecDepth 20000

set_option maxHeartbeats 1000000 in
theorem proto_ok (n : Nat) (w : World) (hn : n ≤ 255) (hP : Places w) :
    Calls Tryz.prog 56 #[.int .i64 (n : Int)] w fun e w' => e = .returned (.tuple #[.agg (cv (pxV 4 n 8) (pxM 4 8)), .int .i64 0]) ∧ Below w.heap.size w w' := by
  have BG : Hid (∀ W, Places W → Calls Tryz.prog 53 #[.int .i64 4, .int .u32 (n : Int), .int .i64 8] W fun e w' => e = .returned (.agg (cv (pxV 4 n 8) (pxM 4 8))) ∧ Below W.heap.size W w') := fun W hW => begins_at 4 n 8 W (by omega) (by omega) (by rw [size_4]; omega) (by decide) hW
  have B0 : Below w.heap.size w (w.alloc (.cells zeroC 37)) := (Below.refl _ _).alloc (Nat.le_refl _) _
  have o0 := heap_new w (.cells zeroC 37) _ rfl
  have HP : Hid (Places (w.alloc (.cells zeroC 37))) := hP.later hP.pos B0
  have hVl := (pxV_byt 4 n 8).1
  have hMl := (pxM_byt 4 8).1
  obtain ⟨V, hV⟩ : ∃ V, V = pxV 4 n 8 := ⟨_, rfl⟩
  obtain ⟨M, hM⟩ : ∃ M, M = pxM 4 8 := ⟨_, rfl⟩
  rw [← hV] at BG hVl ⊢
  rw [← hM] at BG hMl ⊢
  clear hP hV hM
  go_enter Tryz.func56, Tryz.ntmps56
  go_wp2_with fail
  refine (BG.out _ HP.out).mono ?_
  rintro e w1 ⟨rfl, hb1⟩
  have o1 : w1.heap[w.heap.size]? = some (.cells zeroC 37 (0, 0)) := by rw [hb1.block _ (by simp)]; exact o0
  have B1 := B0.trans (hb1.mono B0.size)
  go_wp2_with (first
    | (refine wl_storeC rfl _ _ rfl w.heap.size V M rfl rfl _ o1 rfl hVl hMl _ rfl ?_))
  refine retCe (p := 2) (u := 3) rfl rfl w.heap.size rfl V M hVl hMl (setRow_heap _ _ _ _ _ _ o1) _ rfl ⟨rfl, ?_⟩
  exact below_setRow B1 (Nat.le_refl _) _

set_option maxHeartbeats 1000000 in
theorem proto_no (n : Int) (w : World) (h : ¬ (0 ≤ n ∧ n ≤ 255)) :
    Calls Tryz.prog 56 #[.int .i64 n] w fun e w' => e = .returned (.tuple #[.agg (cv Z Z), .int .i64 10]) ∧ Below w.heap.size w w' := by
  have hZl := Z_byt.1
  by_cases hk : n < 0
  · go_enter Tryz.func56, Tryz.ntmps56
    go_wp2_with (first
      | (refine wl_storeC rfl _ _ rfl w.heap.size Z Z rfl (by rw [← zeroC_eq]; rfl) _ (heap_new _ _ _ rfl) rfl hZl hZl _ (setRow_new _ _ _ _ _ rfl) ?_))
    refine retCe (p := 2) (u := 3) rfl rfl w.heap.size rfl Z Z hZl hZl (heap_new _ _ _ rfl) _ rfl ⟨rfl, (Below.refl _ _).alloc (Nat.le_refl _) _⟩
  · have hk2 : n > 255 := by omega
    clear h
    go_enter Tryz.func56, Tryz.ntmps56
    go_wp2_with (first
      | (refine wl_storeC rfl _ _ rfl w.heap.size Z Z rfl (by rw [← zeroC_eq]; rfl) _ (heap_new _ _ _ rfl) rfl hZl hZl _ (setRow_new _ _ _ _ _ rfl) ?_))
    refine retCe (p := 2) (u := 3) rfl rfl w.heap.size rfl Z Z hZl hZl (heap_new _ _ _ rfl) _ rfl ⟨rfl, (Below.refl _ _).alloc (Nat.le_refl _) _⟩

set_option maxHeartbeats 1000000 in
theorem rproto_ok (n : Nat) (w : World) (hn : n ≤ 255) :
    Calls Tryz.prog 37 #[.int .i64 (n : Int)] w fun e w' => e = .returned (.tuple #[.agg (cv (pxV 4 n 8) (pxM 4 8)), .int .i64 0]) ∧ Below w.heap.size w w' := by
  have RW : Hid (∀ W, Calls Tryz.prog 58 #[.agg zero26, .int .i64 4, .int .u32 (n : Int)] W fun e w' => e = .returned (.tuple #[.agg (hv (fh 4 (n : Int))), .int .i64 0]) ∧ Below W.heap.size W w') := fun W => rwith_at 4 n W (by omega) (by omega) (by rw [size_4]; omega)
  have FR : Hid (∀ W, Calls Tryz.prog 59 #[.agg (hv (fh 4 (n : Int))), .int .i64 4, .int .i64 8] W fun e w' => e = .returned (.agg (cv (pxV 4 n 8) (pxM 4 8))) ∧ Below W.heap.size W w') := fun W => front_at 4 n 8 W (by omega) (by omega) (by decide)
  have B0 : Below w.heap.size w (w.alloc (.cells zeroC 37)) := (Below.refl _ _).alloc (Nat.le_refl _) _
  have o0 := heap_new w (.cells zeroC 37) _ rfl
  have hLl := (fh_byt 4 (n : Int) (by omega) (by omega)).1
  have hVl := (pxV_byt 4 n 8).1
  have hMl := (pxM_byt 4 8).1
  obtain ⟨L, hL⟩ : ∃ L, L = fh 4 (n : Int) := ⟨_, rfl⟩
  obtain ⟨V, hV⟩ : ∃ V, V = pxV 4 n 8 := ⟨_, rfl⟩
  obtain ⟨M, hM⟩ : ∃ M, M = pxM 4 8 := ⟨_, rfl⟩
  rw [← hL] at RW FR hLl
  rw [← hV] at FR hVl ⊢
  rw [← hM] at FR hMl ⊢
  clear hV hM hL
  go_enter Tryz.func37, Tryz.ntmps37
  go_wp2_with fail
  refine (RW.out _).mono ?_
  rintro e w1 ⟨rfl, hb1⟩
  have o1 : w1.heap[w.heap.size]? = some (.cells zeroC 37 (0, 0)) := by rw [hb1.block _ (by simp)]; exact o0
  have B1 := B0.trans (hb1.mono B0.size)
  have l2 := heap_new w1 (.cells (hv L) 31) _ rfl
  have o2 := heap_past w1 (.cells (hv L) 31) _ _ o1
  have B2 := B1.alloc B1.size (.cells (hv L) 31)
  have hz := (Array.getElem?_eq_some_iff.1 o1).1
  go_wp2_with (first
    | (refine wl_store26 rfl _ _ rfl w1.heap.size L rfl rfl _ (heap_new _ _ _ rfl) rfl hLl _ (setRow_new _ _ _ _ _ rfl) ?_)
    | (refine wl_load26 rfl _ rfl w1.heap.size rfl L l2 hLl ?_))
  refine (FR.out _).mono ?_
  rintro e w3 ⟨rfl, hb3⟩
  have o3 : w3.heap[w.heap.size]? = some (.cells zeroC 37 (0, 0)) := by rw [hb3.block _ (Array.getElem?_eq_some_iff.1 o2).1]; exact o2
  have B3 := B2.trans (hb3.mono B2.size)
  go_wp2_with (first
    | (refine wl_storeC rfl _ _ rfl w.heap.size V M rfl rfl _ o3 rfl hVl hMl _ rfl ?_))
  refine retCe (p := 2) (u := 3) rfl rfl w.heap.size rfl V M hVl hMl (setRow_heap _ _ _ _ _ _ o3) _ rfl ⟨rfl, ?_⟩
  exact below_setRow B3 (Nat.le_refl _) _

set_option maxHeartbeats 1000000 in
theorem rproto_no (n : Int) (w : World) (h : ¬ (0 ≤ n ∧ n ≤ 255)) :
    Calls Tryz.prog 37 #[.int .i64 n] w fun e w' => e = .returned (.tuple #[.agg (cv Z Z), .int .i64 10]) ∧ Below w.heap.size w w' := by
  have hZl := Z_byt.1
  by_cases hk : n < 0
  · go_enter Tryz.func37, Tryz.ntmps37
    go_wp2_with (first
      | (refine wl_storeC rfl _ _ rfl w.heap.size Z Z rfl (by rw [← zeroC_eq]; rfl) _ (heap_new _ _ _ rfl) rfl hZl hZl _ (setRow_new _ _ _ _ _ rfl) ?_))
    refine retCe (p := 2) (u := 3) rfl rfl w.heap.size rfl Z Z hZl hZl (heap_new _ _ _ rfl) _ rfl ⟨rfl, (Below.refl _ _).alloc (Nat.le_refl _) _⟩
  · have hk2 : n > 255 := by omega
    clear h
    go_enter Tryz.func37, Tryz.ntmps37
    go_wp2_with (first
      | (refine wl_storeC rfl _ _ rfl w.heap.size Z Z rfl (by rw [← zeroC_eq]; rfl) _ (heap_new _ _ _ rfl) rfl hZl hZl _ (setRow_new _ _ _ _ _ rfl) ?_))
    refine retCe (p := 2) (u := 3) rfl rfl w.heap.size rfl Z Z hZl hZl (heap_new _ _ _ rfl) _ rfl ⟨rfl, (Below.refl _ _).alloc (Nat.le_refl _) _⟩

/-- The protocol of a header. -/
theorem has_proto (H : List Int) (hH : Byt H) (n : Nat) (hn : n ≤ 255) : has (pxV 4 n 8) (pxM 4 8) H = decide (n = fld H 4) := by
  have := has_field H hH 4 n 8 (by omega) (by omega) (by rw [size_4]; omega) (by decide)
  rw [show 8 * sizeOfF 4 - 8 = 0 from rfl, Nat.pow_zero, Nat.div_one, Nat.div_one] at this
  exact this

end Go.Proofs.YtnbklmmampdbfaaGreatDoor
namespace Go.Proofs.YtnbklmmampdbfaaGreatDoor
open Go Go.RowKit
set_option maxRecDepth 20000

/-- What a cube has together with each of a list. -/
def crossR (c : List Int × List Int) (B : List (List Int × List Int)) : List (List Int × List Int) := (B.filter fun d => meets c.1 c.2 d.1 d.2).map fun d => (meetV c.1 c.2 d.1 d.2, meetM c.2 d.2)
/-- What each of one list has together with each of another one. -/
def crossL (A B : List (List Int × List Int)) : List (List Int × List Int) := A.flatMap fun c => crossR c B
theorem crossR_take {c d : List Int × List Int} {B : List (List Int × List Int)} {k : Nat} (hk : B[k]? = some d) : crossR c (B.take (k + 1)) = crossR c (B.take k) ++ (if meets c.1 c.2 d.1 d.2 then [(meetV c.1 c.2 d.1 d.2, meetM c.2 d.2)] else []) := by
  unfold crossR
  rw [List.take_add_one, hk, List.filter_append, List.map_append]
  congr 1
  cases h : meets c.1 c.2 d.1 d.2 <;> simp [h]
theorem crossL_take {c : List Int × List Int} {A B : List (List Int × List Int)} {k : Nat} (hk : A[k]? = some c) : crossL (A.take (k + 1)) B = crossL (A.take k) B ++ crossR c B := by
  unfold crossL
  rw [List.take_add_one, hk]
  simp
theorem crossR_le (c : List Int × List Int) (B : List (List Int × List Int)) (k : Nat) : (crossR c (B.take k)).length ≤ (crossR c B).length := by
  conv => rhs; rw [← List.take_append_drop k B]
  unfold crossR
  rw [List.filter_append, List.map_append, List.length_append]
  omega
theorem crossL_le (A B : List (List Int × List Int)) (k : Nat) : (crossL (A.take k) B).length ≤ (crossL A B).length := by
  conv => rhs; rw [← List.take_append_drop k A]
  unfold crossL
  rw [List.flatMap_append, List.length_append]
  omega
/-- So much as came to be is not more than all. -/
theorem cross_part {c : List Int × List Int} {A B : List (List Int × List Int)} {i : Nat} (hi : A[i]? = some c) (j : Nat) : (crossL (A.take i) B ++ crossR c (B.take j)).length ≤ (crossL A B).length := by
  have h1 := crossL_le A B (i + 1)
  rw [crossL_take hi, List.length_append] at h1
  have h2 := crossR_le c B j
  rw [List.length_append]
  omega

/-- What a number of cubes counts as. -/
def bnd4 (m : Int) : Nat := (min (max m 0) 2048).toNat
theorem bnd4_le (m : Int) : bnd4 m ≤ 2048 := by unfold bnd4; omega
theorem bnd4_eq (m : Int) : ((bnd4 m : Nat) : Int) = min (max m 0) 2048 := by unfold bnd4; omega

set_option maxHeartbeats 4000000 in
theorem cross_any (A B : List (List Int × List Int)) (hA : A.length ≤ 1000) (hB : B.length ≤ 1000) (m : Int) (va vb : Value) (w : World) (hsa : Sl w va A) (hsb : Sl w vb B) :
    Calls Tryz.prog 54 #[va, vb, .int .i64 m] w fun e w' => ((∃ u, e = .returned (.tuple #[u, .int .i64 0]) ∧ (crossL A B).length ≤ bnd4 m ∧ w'.ownsRow w.heap.size 37 26 u (crossL A B).length (ccells (crossL A B))) ∨ (e = .returned (.tuple #[.slice none 0 0, .int .i64 4]) ∧ bnd4 m < (crossL A B).length)) ∧ Below w.heap.size w w' := by
  obtain ⟨oa, capa, rfl, _, _⟩ := hsa.slice
  obtain ⟨ob, capb, rfl, _, _⟩ := hsb.slice
  obtain ⟨na, hna⟩ : ∃ n, n = A.length := ⟨_, rfl⟩
  obtain ⟨nb, hnb⟩ : ∃ n, n = B.length := ⟨_, rfl⟩
  rw [← hna] at hsa hA ⊢
  rw [← hnb] at hsb hB ⊢
  have HNA : Hid (na = A.length) := hna
  have HNB : Hid (nb = B.length) := hnb
  have HSA : Hid (Sl w (.slice oa na capa) A) := hsa
  have HSB : Hid (Sl w (.slice ob nb capb) B) := hsb
  obtain ⟨q, hq⟩ : ∃ q, q = max m 0 := ⟨_, rfl⟩
  have HQ : Hid (q = max m 0) := hq
  obtain ⟨most, hmo⟩ : ∃ most, most = bnd4 m := ⟨_, rfl⟩
  have hmost : most ≤ 2048 := by rw [hmo]; exact bnd4_le m
  have HMO : Hid ((most : Int) = min q 2048) := by show _ = _; rw [hmo, hq]; exact bnd4_eq m
  rw [← hmo]
  clear hsa hsb hna hnb hq hmo
  go_enter Tryz.func54, Tryz.ntmps54
  go_wp2_with (first
    | (refine wl_maxI rfl _ _ rfl m 0 q rfl rfl HQ.out ?_)
    | (refine wl_minI rfl _ _ rfl q 2048 (most : Int) rfl rfl HMO.out ?_))
  go_loopw [8, 20] (fun out i wr => ∃ k : Nat, k ≤ na ∧ i = .int .i64 (k : Int) ∧ (crossL (A.take k) B).length ≤ most ∧ wr.ownsRow w.heap.size 37 26 out (crossL (A.take k) B).length (ccells (crossL (A.take k) B)) ∧ Below w.heap.size w wr) (fun _ i _ => na - (intOf i).toNat)
  case atStart => exact ⟨0, Nat.zero_le _, rfl, Nat.zero_le _, World.ownsRow_nil _ _ _ _, Below.refl _ _⟩
  case round =>
    obtain ⟨k, hk, rfl, hle, hown, hb⟩ := hrel
    obtain ⟨wo, hwo⟩ : ∃ wo : World, wo = wr := ⟨_, rfl⟩
    rw [← hwo] at hown hb ⊢
    clear hwo wr
    by_cases hlt : k < na
    · obtain ⟨g, off, cur, t, fr, U, N, rfl, hg, hc, hAk, hU, hN⟩ := HSA.out.at k hlt
      have hUl := hU.1
      have hNl := hN.1
      have HU : Hid (Byt U ∧ Byt N) := ⟨hU, hN⟩
      have hg' : wo.heap[g]? = some (.cells cur t fr) := (hb.block g (Array.getElem?_eq_some_iff.1 hg).1).trans hg
      have HC : Hid (∀ j, j < 26 → cur[off + k * 26 + j]? = (cv U N)[j]?) := hc
      have HT : Hid (crossL (A.take (k + 1)) B = crossL (A.take k) B ++ crossR (U, N) B) := crossL_take hAk
      have HPT : Hid (∀ j, (crossL (A.take k) B ++ crossR (U, N) (B.take j)).length ≤ (crossL A B).length) := cross_part hAk
      obtain ⟨X, hX⟩ : ∃ X, X = crossL (A.take k) B := ⟨_, rfl⟩
      rw [← hX] at hle hown HT HPT
      have OWN : Hid (wo.ownsRow w.heap.size 37 26 u8 X.length (ccells X)) := hown
      have c0 := heap_new wo (.cells (cv U N) 37) _ rfl
      have B1 := hb.alloc hb.size (.cells (cv U N) 37)
      have HNE : Hid (u8.ownBlock ≠ some wo.heap.size) := own_ne hown (Nat.le_refl _)
      have OWN1 : Hid ((wo.alloc (.cells (cv U N) 37)).ownsRow w.heap.size 37 26 u8 X.length (ccells X)) := hown.alloc _
      have zo := hb.size
      clear hg hc hAk hU hN hX hown hb
      go_wp2_with (first
        | (refine wl_loadCat rfl _ rfl g (off + k * 26) rfl cur t fr U N hUl hNl hg' HC.out ?_)
        | (refine wl_storeC rfl _ _ rfl wo.heap.size U N rfl rfl _ (heap_new _ _ _ rfl) rfl hUl hNl _ (setRow_new _ _ _ _ _ rfl) ?_))
      go_loopw [8, 26] (fun out i wr => ∃ j : Nat, j ≤ nb ∧ i = .int .i64 (j : Int) ∧ ∃ D, D = X ++ crossR (U, N) (B.take j) ∧ D.length ≤ most ∧ wr.ownsRow w.heap.size 37 26 out D.length (ccells D) ∧ out.ownBlock ≠ some wo.heap.size ∧ wr.heap[wo.heap.size]? = some (.cells (cv U N) 37 (0, 0)) ∧ Below w.heap.size w wr) (fun _ i _ => nb - (intOf i).toNat)
      case atStart => exact ⟨0, Nat.zero_le _, rfl, X, by simp [crossR], hle, OWN1.out, HNE.out, c0, B1⟩
      case round =>
        clear c0 B1 OWN1 HNE hg' OWN hle
        obtain ⟨j, hj, rfl, D, hD, hle, hown, hne, c0, hb⟩ := hrel
        have HD : Hid (D = X ++ crossR (U, N) (B.take j)) := hD
        obtain ⟨o8, cap8, rfl⟩ := own_slice hown
        obtain ⟨nd, hnd⟩ : ∃ nd, nd = D.length := ⟨_, rfl⟩
        have HND : Hid (nd = D.length) := hnd
        rw [← hnd] at hown hne hle ⊢
        have OWN : Hid (wr.ownsRow w.heap.size 37 26 (.slice o8 nd cap8) nd (ccells D)) := hown
        have HNE : Hid ((Value.slice o8 nd cap8).ownBlock ≠ some wo.heap.size) := hne
        have z0 := (Array.getElem?_eq_some_iff.1 c0).1
        clear hD hne hnd
        by_cases hjl : j < nb
        · obtain ⟨g2, off2, cur2, t2, fr2, U2, N2, rfl, hg2, hc2, hBj, hU2, hN2⟩ := HSB.out.at j hjl
          have hUl2 := hU2.1
          have hNl2 := hN2.1
          have h2g : wr.heap[g2]? = some (.cells cur2 t2 fr2) := (hb.block g2 (Array.getElem?_eq_some_iff.1 hg2).1).trans hg2
          have HC2 : Hid (∀ i, i < 26 → cur2[off2 + j * 26 + i]? = (cv U2 N2)[i]?) := hc2
          have HS : Hid (crossR (U, N) (B.take (j + 1)) = crossR (U, N) (B.take j) ++ (if meets U N U2 N2 then [(meetV U N U2 N2, meetM N N2)] else [])) := crossR_take hBj
          have ME : Hid (∀ W, Calls Tryz.prog 62 #[.agg (cv U N), .agg (cv U2 N2)] W fun e w' => e = .returned (meetR U N U2 N2) ∧ Below W.heap.size W w') := meet_any U N U2 N2 HU.out.1 HU.out.2 hU2 hN2
          have k0 := heap_past wr (.cells (cv U2 N2) 37) _ _ c0
          have k1 := heap_new wr (.cells (cv U2 N2) 37) _ rfl
          have B2 := hb.alloc hb.size (.cells (cv U2 N2) 37)
          have OWN2 : Hid ((wr.alloc (.cells (cv U2 N2) 37)).ownsRow w.heap.size 37 26 (.slice o8 nd cap8) nd (ccells D)) := hown.alloc _
          clear hg2 hc2 hBj hU2 hN2 hown OWN
          cases hm : meets U N U2 N2
          · rw [meetR_no _ _ _ _ hm] at ME
            rw [hm] at HS
            have hZl := Z_byt.1
            go_wp2_with (first
              | (refine wl_loadCat rfl _ rfl g2 (off2 + j * 26) rfl cur2 t2 fr2 U2 N2 hUl2 hNl2 h2g HC2.out ?_)
              | (refine wl_storeC rfl _ _ rfl wr.heap.size U2 N2 rfl rfl _ (heap_new _ _ _ rfl) rfl hUl2 hNl2 _ (setRow_new _ _ _ _ _ rfl) ?_)
              | (refine wl_loadC rfl _ rfl wr.heap.size rfl U2 N2 k1 hUl2 hNl2 ?_)
              | (refine wl_loadC rfl _ rfl wo.heap.size rfl U N k0 hUl hNl ?_))
            refine (ME.out _).mono ?_
            rintro e w1 ⟨rfl, hb1⟩
            have B3 := B2.trans (hb1.mono B2.size)
            have c1 : w1.heap[wo.heap.size]? = some (.cells (cv U N) 37 (0, 0)) := by rw [hb1.block _ (by simp; omega)]; exact k0
            have c2 := heap_past w1 (.cells (cv Z Z) 37) _ _ c1
            have B4 := B3.alloc B3.size (.cells (cv Z Z) 37)
            have OWN3 : Hid ((w1.alloc (.cells (cv Z Z) 37)).ownsRow w.heap.size 37 26 (.slice o8 nd cap8) nd (ccells D)) := (own_below OWN2.out hb1).alloc _
            clear hb1 k0 k1 B2 OWN2 c1 B3 h2g
            go_wp2_with (first
              | (refine wl_storeC rfl _ _ rfl w1.heap.size Z Z rfl rfl _ (heap_new _ _ _ rfl) rfl hZl hZl _ (setRow_new _ _ _ _ _ rfl) ?_))
            go_roundw
            case rel => exact ⟨j + 1, by omega, by go_num, D, by rw [HS.out, HD.out]; simp, by rw [← HND.out]; exact hle, by rw [← HND.out]; exact OWN3.out, HNE.out, c2, B4⟩
            case measure => simp [intOf]; omega
          · rw [meetR_yes _ _ _ _ hm] at ME
            rw [hm] at HS
            have HAV := (meetV_byt U N U2 N2)
            have HAM := (meetM_byt N N2)
            obtain ⟨AV, hAV⟩ : ∃ AV, AV = meetV U N U2 N2 := ⟨_, rfl⟩
            obtain ⟨AM, hAM⟩ : ∃ AM, AM = meetM N N2 := ⟨_, rfl⟩
            rw [← hAV, ← hAM] at ME HS
            rw [← hAV] at HAV
            rw [← hAM] at HAM
            have hAVl := HAV.1
            have hAMl := HAM.1
            have HS2 : Hid (X ++ crossR (U, N) (B.take (j + 1)) = D ++ [(AV, AM)]) := by
              show _ = _
              rw [HS.out, HD.out]; simp
            have HP2 : Hid ((D ++ [(AV, AM)]).length ≤ (crossL A B).length) := by
              show _ ≤ _
              rw [← HS2.out]; exact HPT.out (j + 1)
            clear HAV HAM hAV hAM
            go_wp2_with (first
              | (refine wl_loadCat rfl _ rfl g2 (off2 + j * 26) rfl cur2 t2 fr2 U2 N2 hUl2 hNl2 h2g HC2.out ?_)
              | (refine wl_storeC rfl _ _ rfl wr.heap.size U2 N2 rfl rfl _ (heap_new _ _ _ rfl) rfl hUl2 hNl2 _ (setRow_new _ _ _ _ _ rfl) ?_)
              | (refine wl_loadC rfl _ rfl wr.heap.size rfl U2 N2 k1 hUl2 hNl2 ?_)
              | (refine wl_loadC rfl _ rfl wo.heap.size rfl U N k0 hUl hNl ?_))
            refine (ME.out _).mono ?_
            rintro e w1 ⟨rfl, hb1⟩
            have B3 := B2.trans (hb1.mono B2.size)
            have c1 : w1.heap[wo.heap.size]? = some (.cells (cv U N) 37 (0, 0)) := by rw [hb1.block _ (by simp; omega)]; exact k0
            have z1 := (Array.getElem?_eq_some_iff.1 c1).1
            have c2 := heap_past w1 (.cells (cv AV AM) 37) _ _ c1
            have c3 := heap_new w1 (.cells (cv AV AM) 37) _ rfl
            have B4 := B3.alloc B3.size (.cells (cv AV AM) 37)
            have OWN3 : Hid ((w1.alloc (.cells (cv AV AM) 37)).ownsRow w.heap.size 37 26 (.slice o8 nd cap8) nd (ccells D)) := (own_below OWN2.out hb1).alloc _
            have hz3 := B3.size
            clear hb1 k0 k1 B2 OWN2 c1 B3 h2g
            by_cases hfull : nd = most
            · go_wp2_with (first
                | (refine wl_storeC rfl _ _ rfl w1.heap.size AV AM rfl rfl _ (heap_new _ _ _ rfl) rfl hAVl hAMl _ (setRow_new _ _ _ _ _ rfl) ?_))
              go_ret2
              refine ⟨.inr ⟨rfl, ?_⟩, B4⟩
              have := HP2.out
              rw [List.length_append, ← HND.out] at this
              simp at this
              omega
            · go_wp2_with (first
                | (refine wl_storeC rfl _ _ rfl w1.heap.size AV AM rfl rfl _ (heap_new _ _ _ rfl) rfl hAVl hAMl _ (setRow_new _ _ _ _ _ rfl) ?_)
                | (refine wl_loadC rfl _ rfl w1.heap.size rfl AV AM c3 hAVl hAMl ?_)
                | (refine wl_build1 rfl _ rfl AV AM hAVl hAMl rfl ?_)
                | (at_builtin; refine of_stopped ?_))
              unfold Stopped
              have c4 := heap_past (w1.alloc (.cells (cv AV AM) 37)) (.cells (cv AV AM) 37) _ _ c2
              have c5 := heap_new (w1.alloc (.cells (cv AV AM) 37)) (.cells (cv AV AM) 37) (w1.heap.size + 1) (by simp)
              have B5 := B4.alloc B4.size (.cells (cv AV AM) 37)
              have OWN5 : Hid (((w1.alloc (.cells (cv AV AM) 37)).alloc (.cells (cv AV AM) 37)).ownsRow w.heap.size 37 26 (.slice o8 nd cap8) D.length (ccells D)) := by
                have := OWN3.out.alloc (.cells (cv AV AM) 37)
                rw [HND.out] at this ⊢
                exact this
              refine wl_append1 rfl _ _ rfl w.heap.size _ D AV AM hAVl hAMl rfl OWN5.out _ 1 rfl c5 (by rw [← HND.out]; omega) (by simp; omega) ?_
              intro v' w2 hown2 hgr hat
              have B6 : Below w.heap.size w w2 := B5.grown hgr (by simp; omega) (fun q hq => (OWN5.out.lt q hq).1)
              have c6 : w2.heap[wo.heap.size]? = some (.cells (cv U N) 37 (0, 0)) := by
                rw [hgr.block _ (by simp; omega) (fun hq => HNE.out hq.symm)]
                exact c4
              have HNE2 : Hid (v'.ownBlock ≠ some wo.heap.size) := by
                rcases hat with h | h
                · show _ ≠ _; rw [h]; exact HNE.out
                · show _ ≠ _; rw [h]; simp; omega
              have OWN6 : Hid (w2.ownsRow w.heap.size 37 26 v' (D ++ [(AV, AM)]).length (ccells (D ++ [(AV, AM)]))) := hown2
              have hl2 : (D ++ [(AV, AM)]).length ≤ most := by rw [List.length_append, ← HND.out]; simp; omega
              have HL2 : Hid ((D ++ [(AV, AM)]).length ≤ most) := hl2
              simp only [Act.put, List.setIfInBounds_toArray, List.set_cons_succ, List.set_cons_zero]
              clear hown2 hgr hat c4 c5 B5 OWN5 c2 c3 B4 OWN3 hl2
              go_wp2_with fail
              go_roundw
              case rel => exact ⟨j + 1, by omega, by go_num, D ++ [(AV, AM)], HS2.out.symm, HL2.out, OWN6.out, HNE2.out, c6, B6⟩
              case measure => simp [intOf]; omega
        · obtain rfl : j = nb := by omega
          have HF : Hid (D = crossL (A.take (k + 1)) B) := by
            show _ = _
            rw [HT.out, HD.out, HNB.out, List.take_length]
          go_wp2_with fail
          go_roundw
          case rel => exact ⟨k + 1, by omega, by go_num, by rw [← HF.out, ← HND.out]; exact hle, by rw [← HF.out, ← HND.out]; exact OWN.out, hb⟩
          case measure => simp [intOf]; omega
    · obtain rfl : k = na := by omega
      have HE : Hid (crossL (A.take k) B = crossL A B) := by
        show _ = _
        rw [HNA.out, List.take_length]
      rw [HE.out] at hle hown
      have OWN : Hid (wo.ownsRow w.heap.size 37 26 u8 (crossL A B).length (ccells (crossL A B))) := hown
      have HLE : Hid ((crossL A B).length ≤ most) := hle
      clear hown hle HE
      go_wp2_with fail
      go_ret2
      exact ⟨.inl ⟨u8, rfl, HLE.out, OWN.out⟩, hb⟩
end Go.Proofs.YtnbklmmampdbfaaGreatDoor
namespace Go.Proofs.YtnbklmmampdbfaaGreatDoor
open Go Go.RowKit
set_option maxRecDepth 20000

abbrev CubeT := List Int × List Int
def allC : CubeT := (Z, Z)
def clip8 (n : Int) : Nat := (min (max n 0) 32).toNat
/-- The cubes of a prefix, and of a protocol. -/
def prefL (f : Int) (v : Int) (n : Int) : List CubeT := [(pxV f v.toNat (clip8 n), pxM f (clip8 n))]
def protL (n : Int) : List CubeT := if n = -1 then [allC] else if 0 ≤ n ∧ n ≤ 255 then [(pxV 4 n.toNat 8, pxM 4 8)] else []
theorem m0_Z : m0 = Z := by rw [Z_eq]; rfl
theorem all8 (w : World) : Calls Tryz.prog 14 #[] w fun e w' => e = .returned (.agg (cv Z Z)) ∧ Below w.heap.size w w' := by
  have := all0 w
  rwa [m0_Z] at this
theorem own_one8 (w : World) (V M : List Int) (hV : Byt V) (hM : Byt M) : (w.alloc (.cells (cv V M) 37)).ownsRow w.heap.size 37 26 (.slice (some ⟨w.heap.size, 0, none⟩) 1 1) 1 (ccells [(V, M)]) := by
  have := World.ownsRow_lit (base := w.heap.size) (e := 37) (size := 26) w (cv V M) 1 (Nat.le_refl _) (by unfold maxLen; omega) (by rw [cv_size _ _ hV.1 hM.1])
  rw [← ccells_one] at this
  exact this
theorem byts_one {V M : List Int} (hV : Byt V) (hM : Byt M) : Byts [(V, M)] := fun c hc => by rw [List.mem_singleton.1 hc]; exact ⟨hV, hM⟩
theorem sl_one8 (w : World) (V M : List Int) (hV : Byt V) (hM : Byt M) : Sl (w.alloc (.cells (cv V M) 37)) (.slice (some ⟨w.heap.size, 0, none⟩) 1 1) [(V, M)] := sl_of (own_one8 w V M hV hM) (byts_one hV hM)
theorem sl_two8 (w : World) (V M : List Int) (hV : Byt V) (hM : Byt M) : Sl ((w.alloc (.cells (cv V M) 37)).alloc (.cells (cv V M) 37)) (.slice (some ⟨w.heap.size + 1, 0, none⟩) 1 1) [(V, M)] := by
  have := sl_one8 (w.alloc (.cells (cv V M) 37)) V M hV hM
  rw [show (w.alloc (.cells (cv V M) 37)).heap.size = w.heap.size + 1 by simp] at this
  exact this
theorem sl_none8 (w : World) : Sl w (.slice none 0 0) [] := sl_of (C := []) (World.ownsRow_nil w w.heap.size _ _) (fun c hc => absurd hc (by simp))

set_option maxHeartbeats 2000000 in
theorem prefix8_any (f v n : Int) (hf : f = 0 ∨ f = 1) (h0 : 0 ≤ v) (h1 : v < 4294967296) (w : World) (hP : Places w) :
    Calls Tryz.prog 31 #[.int .i64 f, .int .u32 v, .int .i64 n] w fun e w' => (∃ u, e = .returned u ∧ Sl w' u (prefL f v n)) ∧ Below w.heap.size w w' := by
  obtain ⟨v', rfl⟩ := Int.eq_ofNat_of_zero_le h0
  obtain ⟨k, hk⟩ : ∃ k, k = clip8 n := ⟨_, rfl⟩
  have PX := prefix_ok f v' k w hf (by omega) (by rw [hk]; unfold clip8; omega) hP
  unfold prefL
  rw [← hk, Int.toNat_natCast]
  have hV := pxV_byt f v' k
  have hM := pxM_byt f k
  obtain ⟨V, hVe⟩ : ∃ V, V = pxV f v' k := ⟨_, rfl⟩
  obtain ⟨M, hMe⟩ : ∃ M, M = pxM f k := ⟨_, rfl⟩
  rw [← hVe] at PX hV ⊢
  rw [← hMe] at PX hM ⊢
  have HPX : Hid (∀ W, W = w → Calls Tryz.prog 55 #[.int .i64 f, .int .u32 (v' : Int), .int .i64 (k : Int)] W fun e w' => e = .returned (.tuple #[.agg (cv V M), .int .i64 0]) ∧ Below w.heap.size w w') := fun W hW => by subst hW; exact PX
  obtain ⟨mx, hmx⟩ : ∃ mx, mx = max n 0 := ⟨_, rfl⟩
  have HMX : Hid (mx = max n 0) := hmx
  have HMN : Hid ((k : Int) = min mx 32) := by show _ = _; rw [hk, hmx]; unfold clip8; omega
  have hVl := hV.1
  have hMl := hM.1
  clear PX hVe hMe hk hP hmx
  go_enter Tryz.func31, Tryz.ntmps31
  go_wp2_with (first
    | (refine wl_maxI rfl _ _ rfl n 0 mx rfl rfl HMX.out ?_)
    | (refine wl_minI rfl _ _ rfl mx 32 (k : Int) rfl rfl HMN.out ?_))
  refine (HPX.out _ rfl).mono ?_
  rintro e w1 ⟨rfl, hb1⟩
  have B1 : Hid (Below w.heap.size w w1) := hb1
  have K1 : Hid ((w1.alloc (.cells (cv V M) 37)).heap[w1.heap.size]? = some (.cells (cv V M) 37 (0, 0))) := heap_new _ _ _ rfl
  clear hb1
  go_wp2_with (first
    | (refine wl_storeC rfl _ _ rfl w1.heap.size V M rfl rfl _ (heap_new _ _ _ rfl) rfl hVl hMl _ (setRow_new _ _ _ _ _ rfl) ?_)
    | (refine wl_loadC rfl _ rfl w1.heap.size rfl V M K1.out hVl hMl ?_)
    | (refine wl_build1 rfl _ rfl V M hVl hMl rfl ?_))
  go_ret
  exact ⟨⟨_, rfl, sl_two8 w1 V M hV hM⟩, (B1.out.alloc B1.out.size _).alloc (by have := B1.out.size; simp; omega) _⟩

set_option maxHeartbeats 2000000 in
theorem protos_any (n : Int) (w : World) (hP : Places w) :
    Calls Tryz.prog 32 #[.int .i64 n] w fun e w' => (∃ u, e = .returned u ∧ Sl w' u (protL n)) ∧ Below w.heap.size w w' := by
  have hZl := Z_byt.1
  by_cases h1 : n = -1
  · subst h1
    have HA : Hid (∀ W, Calls Tryz.prog 14 #[] W fun e w' => e = .returned (.agg (cv Z Z)) ∧ Below W.heap.size W w') := all8
    rw [show protL (-1) = [allC] from rfl]
    go_enter Tryz.func32, Tryz.ntmps32
    go_wp2_with fail
    refine (HA.out _).mono ?_
    rintro e w1 ⟨rfl, hb1⟩
    have B1 : Hid (Below w.heap.size w w1) := hb1
    clear hb1
    go_wp2_with (refine wl_build1 rfl _ rfl Z Z hZl hZl rfl ?_)
    go_ret
    exact ⟨⟨_, rfl, sl_one8 _ Z Z Z_byt Z_byt⟩, B1.out.alloc B1.out.size _⟩
  · have h1' : (n == -1) = false := by simp [h1]
    by_cases h2 : 0 ≤ n ∧ n ≤ 255
    · obtain ⟨k, rfl⟩ := Int.eq_ofNat_of_zero_le h2.1
      have PX := proto_ok k w (by omega) hP
      rw [show protL (k : Int) = [(pxV 4 k 8, pxM 4 8)] by unfold protL; rw [if_neg h1, if_pos h2, Int.toNat_natCast]]
      have hV := pxV_byt 4 k 8
      have hM := pxM_byt 4 8
      obtain ⟨V, hVe⟩ : ∃ V, V = pxV 4 k 8 := ⟨_, rfl⟩
      obtain ⟨M, hMe⟩ : ∃ M, M = pxM 4 8 := ⟨_, rfl⟩
      rw [← hVe] at PX hV ⊢
      rw [← hMe] at PX hM ⊢
      have HPX : Hid (∀ W, W = w → Calls Tryz.prog 56 #[.int .i64 (k : Int)] W fun e w' => e = .returned (.tuple #[.agg (cv V M), .int .i64 0]) ∧ Below w.heap.size w w') := fun W hW => by subst hW; exact PX
      have hVl := hV.1
      have hMl := hM.1
      clear PX hVe hMe hP h1 h2
      go_enter Tryz.func32, Tryz.ntmps32
      go_wp2_with fail
      refine (HPX.out _ rfl).mono ?_
      rintro e w1 ⟨rfl, hb1⟩
      have B1 : Hid (Below w.heap.size w w1) := hb1
      have K1 : Hid ((w1.alloc (.cells (cv V M) 37)).heap[w1.heap.size]? = some (.cells (cv V M) 37 (0, 0))) := heap_new _ _ _ rfl
      clear hb1
      go_wp2_with (first
        | (refine wl_storeC rfl _ _ rfl w1.heap.size V M rfl rfl _ (heap_new _ _ _ rfl) rfl hVl hMl _ (setRow_new _ _ _ _ _ rfl) ?_)
        | (refine wl_loadC rfl _ rfl w1.heap.size rfl V M K1.out hVl hMl ?_)
        | (refine wl_build1 rfl _ rfl V M hVl hMl rfl ?_))
      go_ret
      exact ⟨⟨_, rfl, sl_two8 w1 V M hV hM⟩, (B1.out.alloc B1.out.size _).alloc (by have := B1.out.size; simp; omega) _⟩
    · have PX := proto_no n w h2
      rw [show protL n = [] by unfold protL; rw [if_neg h1, if_neg h2]]
      have HPX : Hid (∀ W, W = w → Calls Tryz.prog 56 #[.int .i64 n] W fun e w' => e = .returned (.tuple #[.agg (cv Z Z), .int .i64 10]) ∧ Below w.heap.size w w') := fun W hW => by subst hW; exact PX
      clear PX hP h1 h2
      go_enter Tryz.func32, Tryz.ntmps32
      go_wp2_with fail
      refine (HPX.out _ rfl).mono ?_
      rintro e w1 ⟨rfl, hb1⟩
      have B1 : Hid (Below w.heap.size w w1) := hb1
      clear hb1
      go_wp2_with (refine wl_storeC rfl _ _ rfl w1.heap.size Z Z rfl rfl _ (heap_new _ _ _ rfl) rfl hZl hZl _ (setRow_new _ _ _ _ _ rfl) ?_)
      go_ret
      exact ⟨⟨_, rfl, sl_none8 _⟩, B1.out.alloc B1.out.size _⟩

theorem crossR_len (c : CubeT) (B : List CubeT) : (crossR c B).length ≤ B.length := by
  unfold crossR
  rw [List.length_map]
  exact List.length_filter_le _ _
theorem crossL_len (A B : List CubeT) : (crossL A B).length ≤ A.length * B.length := by
  induction A with
  | nil => simp [crossL]
  | cons c A ih =>
    have h := crossR_len c B
    have e : crossL (c :: A) B = crossR c B ++ crossL A B := rfl
    rw [e, List.length_append, List.length_cons, Nat.add_mul, Nat.one_mul]
    omega
/-- Lists crossed, one behind the other. -/
def meetsL (L : List (List CubeT)) : List CubeT := L.foldl crossL [allC]
theorem meetsL_take {L : List (List CubeT)} {k : Nat} {l : List CubeT} (h : L[k]? = some l) : meetsL (L.take (k + 1)) = crossL (meetsL (L.take k)) l := by
  unfold meetsL
  rw [List.take_add_one, h, List.foldl_append]
  rfl
theorem byts_crossL (A B : List CubeT) : Byts (crossL A B) := fun c hc => by
  unfold crossL crossR at hc
  obtain ⟨a, ha, hc⟩ := List.mem_flatMap.1 hc
  obtain ⟨b, hb, rfl⟩ := List.mem_map.1 hc
  exact ⟨meetV_byt _ _ _ _, meetM_byt _ _⟩
/-- Lists of cubes in a row. -/
def ListsAt (w : World) (v : Value) (L : List (List CubeT)) : Prop :=
  ∃ g vs, v = .slice (some ⟨g, 0, none⟩) L.length L.length ∧ w.heap[g]? = some (.cells vs 49 (0, 0)) ∧ ∀ (i : Nat) (l : List CubeT), L[i]? = some l → ∃ u, vs[i]? = some u ∧ Sl w u l

set_option maxHeartbeats 4000000 in
theorem meets_any (L : List (List CubeT)) (vl : Value) (w : World) (hl : ListsAt w vl L) (hn : L.length ≤ 100) (hb1 : ∀ l ∈ L, l.length ≤ 1000) (hb2 : ∀ k, (meetsL (L.take k)).length ≤ 1000) :
    Calls Tryz.prog 30 #[vl] w fun e w' => (∃ u, e = .returned u ∧ w'.ownsRow w.heap.size 37 26 u (meetsL L).length (ccells (meetsL L))) ∧ Below w.heap.size w w' := by
  have hZl := Z_byt.1
  have HA : Hid (∀ W, Calls Tryz.prog 14 #[] W fun e w' => e = .returned (.agg (cv Z Z)) ∧ Below W.heap.size W w') := all8
  have HC : Hid (∀ (A B : List CubeT) va vb W, A.length ≤ 1000 → B.length ≤ 1000 → (crossL A B).length ≤ 1000 → Sl W va A → Sl W vb B → Calls Tryz.prog 54 #[va, vb, .int .i64 2048] W fun e w' => (∃ u, e = .returned (.tuple #[u, .int .i64 0]) ∧ w'.ownsRow W.heap.size 37 26 u (crossL A B).length (ccells (crossL A B))) ∧ Below W.heap.size W w') := fun A B va vb W h1 h2 h3 h4 h5 => (cross_any A B h1 h2 2048 va vb W h4 h5).mono fun e w' h => by
    obtain ⟨h | h, hb⟩ := h
    · obtain ⟨u, e1, _, e3⟩ := h
      exact ⟨⟨u, e1, e3⟩, hb⟩
    · exfalso
      have := h.2
      rw [show bnd4 2048 = 2048 from rfl] at this
      omega
  obtain ⟨g, vs, rfl, hg, hvs⟩ := hl
  obtain ⟨n, hn0⟩ : ∃ n, n = L.length := ⟨_, rfl⟩
  have HN : Hid (n = L.length) := hn0
  rw [← hn0] at hn ⊢
  have HG : Hid (w.heap[g]? = some (.cells vs 49 (0, 0))) := hg
  have HV : Hid (∀ (i : Nat) (l : List CubeT), L[i]? = some l → ∃ u, vs[i]? = some u ∧ Sl w u l) := hvs
  have HB1 : Hid (∀ l ∈ L, l.length ≤ 1000) := hb1
  have HB2 : Hid (∀ k, (meetsL (L.take k)).length ≤ 1000) := hb2
  clear hg hvs hb1 hb2 hn0
  go_enter Tryz.func30, Tryz.ntmps30
  go_wp2_with fail
  refine (HA.out _).mono ?_
  rintro e w1 ⟨rfl, hbw⟩
  have B1 : Hid (Below w.heap.size w (w1.alloc (.cells (cv Z Z) 37))) := hbw.alloc hbw.size _
  have O1 : Hid ((w1.alloc (.cells (cv Z Z) 37)).ownsRow w.heap.size 37 26 (.slice (some ⟨w1.heap.size, 0, none⟩) 1 1) (meetsL (L.take 0)).length (ccells (meetsL (L.take 0))) ∧ Byts (meetsL (L.take 0))) := ⟨gown_base (own_one8 w1 Z Z Z_byt Z_byt) hbw.size, byts_one Z_byt Z_byt⟩
  clear hbw
  go_wp2_with (refine wl_build1 rfl _ rfl Z Z hZl hZl rfl ?_)
  go_loopw [3, 10] (fun v i wr => ∃ (k : Nat) (C : List CubeT), k ≤ n ∧ i = .int .i64 (k : Int) ∧ Hid (C = meetsL (L.take k)) ∧ wr.ownsRow w.heap.size 37 26 v C.length (ccells C) ∧ Byts C ∧ Below w.heap.size w wr) (fun _ i _ => n - (intOf i).toNat)
  case atStart => exact ⟨0, _, Nat.zero_le _, rfl, rfl, O1.out.1, O1.out.2, B1.out⟩
  case round =>
    clear O1 B1
    obtain ⟨k, C, hk, rfl, HCE, hown, hbyt, hb⟩ := hrel
    have HO : Hid (wr.ownsRow w.heap.size 37 26 u3 C.length (ccells C)) := hown
    have HY : Hid (Byts C) := hbyt
    have HB : Hid (Below w.heap.size w wr) := hb
    clear hown hb hbyt
    by_cases hlt : k < n
    · have hlt' : (k : Int) < (n : Int) := by omega
      obtain ⟨l, hlk⟩ : ∃ l, L[k]? = some l := ⟨_, List.getElem?_eq_getElem (by have := HN.out; omega)⟩
      obtain ⟨u, hu, hsl⟩ := HV.out k l hlk
      have hgr : wr.heap[g]? = some (.cells vs 49 (0, 0)) := (HB.out.block g (Array.getElem?_eq_some_iff.1 HG.out).1).trans HG.out
      have cx : wr.cell? ⟨g, k, none⟩ = some u := by rw [cell_of_row _ _ _ _ _ _ hgr]; exact hu
      have SLW : Hid (Sl wr u l) := hsl.below HB.out
      have SC : Hid (Sl wr u3 C) := sl_of HO.out HY.out
      have HT : Hid (meetsL (L.take (k + 1)) = crossL C l) := by show _ = _; rw [HCE.out]; exact meetsL_take hlk
      have H1 : Hid (C.length ≤ 1000) := by show _ ≤ _; rw [HCE.out]; exact HB2.out k
      have H2 : Hid (l.length ≤ 1000) := HB1.out l (List.mem_of_getElem? hlk)
      have H3 : Hid ((crossL C l).length ≤ 1000) := by show _ ≤ _; rw [← HT.out]; exact HB2.out (k + 1)
      obtain ⟨o, cap, rfl, _, _⟩ := hsl.slice
      have HLT : Hid (k < n) := hlt
      clear hu hsl hgr hlk hlt
      go_wp2_with fail
      refine (HC.out C l _ _ _ H1.out H2.out H3.out SC.out SLW.out).mono ?_
      rintro e w2 ⟨⟨v, rfl, ho2⟩, hb2⟩
      have O2 : Hid (w2.ownsRow w.heap.size 37 26 v (crossL C l).length (ccells (crossL C l))) := gown_base ho2 HB.out.size
      have B2 : Hid (Below w.heap.size w w2) := HB.out.trans (hb2.mono HB.out.size)
      clear ho2 hb2
      go_wp2_with fail
      go_roundw
      case rel =>
        have := HLT.out
        exact ⟨k + 1, crossL C l, by omega, by go_num, HT.out.symm, O2.out, byts_crossL _ _, B2.out⟩
      case measure =>
        have := HLT.out
        simp [intOf]; omega
    · have hlt' : ¬ (k : Int) < (n : Int) := by omega
      have HE : Hid (C = meetsL L) := by
        have := HN.out
        show _ = _
        rw [HCE.out, List.take_of_length_le (by omega)]
      go_wp2_with fail
      go_ret
      exact ⟨⟨_, rfl, by rw [← HE.out]; exact HO.out⟩, HB.out⟩
end Go.Proofs.YtnbklmmampdbfaaGreatDoor
namespace Go.Proofs.YtnbklmmampdbfaaGreatDoor
open Go
set_option maxRecDepth 20000

/-! Lists that are sorted by a falling number, those of one number in their order. -/
section
variable {α : Type} (p : α → Int)
/-- No later one has a greater number. -/
def Desc (l : List α) : Prop := l.Pairwise fun x y => p y ≤ p x
/-- Those of each number are the same, in the same order. -/
def Alike (l l' : List α) : Prop := ∀ k : Int, l.filter (fun x => p x == k) = l'.filter (fun x => p x == k)
theorem Alike.refl (l : List α) : Alike p l l := fun _ => rfl
variable {p}
theorem Alike.symm {l l' : List α} (h : Alike p l l') : Alike p l' l := fun k => (h k).symm
theorem Alike.trans {l l' l'' : List α} (h : Alike p l l') (h' : Alike p l' l'') : Alike p l l'' := fun k => (h k).trans (h' k)
theorem Alike.app {a a' b b' : List α} (h : Alike p a a') (h' : Alike p b b') : Alike p (a ++ b) (a' ++ b') := fun k => by
  rw [List.filter_append, List.filter_append, h k, h' k]
theorem Alike.mem {l l' : List α} (h : Alike p l l') (x : α) : x ∈ l ↔ x ∈ l' := by
  have e : ∀ m : List α, x ∈ m ↔ x ∈ m.filter (fun y => p y == p x) := fun m => by simp [List.mem_filter]
  rw [e l, h (p x), ← e l']
theorem alike_swap {X Y : List α} (h : ∀ y ∈ Y, ∀ x ∈ X, p x < p y) : Alike p (X ++ Y) (Y ++ X) := fun k => by
  rw [List.filter_append, List.filter_append]
  cases hx : X.filter (fun x => p x == k) with
  | nil => simp
  | cons x l =>
    have hxm : x ∈ X.filter (fun x => p x == k) := by rw [hx]; simp
    have hy : Y.filter (fun x => p x == k) = [] := by
      rw [List.filter_eq_nil_iff]
      intro y hy hk
      have h1 := (List.mem_filter.1 hxm)
      have := h y hy x h1.1
      simp at hk
      have h2 := h1.2
      simp at h2
      omega
    rw [hy]; simp
theorem desc_one : ∀ (l l' : List α), Desc p l → Desc p l' → Alike p l l' → l = l'
  | [], [], _, _, _ => rfl
  | [], b :: t', _, _, h => absurd ((h.mem b).2 (by simp)) (by simp)
  | a :: t, [], _, _, h => absurd ((h.mem a).1 (by simp)) (by simp)
  | a :: t, b :: t', h1, h2, h => by
    obtain ⟨q1, r1⟩ := List.pairwise_cons.1 h1
    obtain ⟨q2, r2⟩ := List.pairwise_cons.1 h2
    have e : p a = p b := by
      have ha : p a ≤ p b := by
        rcases List.mem_cons.1 ((h.mem a).1 (by simp)) with e | e
        · rw [e]; exact Int.le_refl _
        · exact q2 a e
      have hb : p b ≤ p a := by
        rcases List.mem_cons.1 ((h.mem b).2 (by simp)) with e | e
        · rw [e]; exact Int.le_refl _
        · exact q1 b e
      omega
    have h0 := h (p a)
    rw [List.filter_cons, List.filter_cons, if_pos (by simp), if_pos (by simp [e])] at h0
    obtain ⟨rfl, ht⟩ := List.cons.inj h0
    rw [desc_one t t' r1 r2 fun k => ?_]
    have hk := h k
    rw [List.filter_cons, List.filter_cons] at hk
    by_cases hc : (p a == k) = true
    · rw [if_pos hc, if_pos hc] at hk; exact (List.cons.inj hk).2
    · rw [if_neg hc, if_neg hc] at hk; exact hk
theorem merge_step {X1 X2 Y1 Y2 Z1 Z2 : List α} (hX : Desc p (X1 ++ X2)) (hY : Desc p (Y1 ++ Y2)) (h1 : ∀ x ∈ X1, ∀ y ∈ Y2, p y ≤ p x) (h2 : ∀ y ∈ Y1, ∀ x ∈ X2, p x < p y)
    (d1 : Desc p Z1) (a1 : Alike p Z1 (X1 ++ Y1)) (d2 : Desc p Z2) (a2 : Alike p Z2 (X2 ++ Y2)) : Desc p (Z1 ++ Z2) ∧ Alike p (Z1 ++ Z2) ((X1 ++ X2) ++ (Y1 ++ Y2)) := by
  refine ⟨List.pairwise_append.2 ⟨d1, d2, fun u hu v hv => ?_⟩, ?_⟩
  · have hx := (List.pairwise_append.1 hX).2.2
    have hy := (List.pairwise_append.1 hY).2.2
    rcases List.mem_append.1 ((a1.mem u).1 hu) with u1 | u1 <;> rcases List.mem_append.1 ((a2.mem v).1 hv) with v1 | v1
    · exact hx u u1 v v1
    · exact h1 u u1 v v1
    · have := h2 u u1 v v1; omega
    · exact hy u u1 v v1
  · have e : Alike p (X2 ++ Y1) (Y1 ++ X2) := alike_swap h2
    refine (a1.app a2).trans ?_
    have := ((Alike.refl p X1).app e.symm).app (Alike.refl p Y2)
    simpa [List.append_assoc] using this
end

/-! The same of a part of an array, place by place. -/
section
variable {α : Type}
def segF (f : Nat → α) (a n : Nat) : List α := (List.range n).map fun i => f (a + i)
theorem segF_add (f : Nat → α) (a n m : Nat) : segF f a (n + m) = segF f a n ++ segF f (a + n) m := by
  unfold segF
  rw [List.range_add, List.map_append, List.map_map]
  congr 1
  apply List.map_congr_left
  intro i _
  simp [Nat.add_assoc]
theorem segF_congr {f g : Nat → α} {a b n : Nat} (h : ∀ i, i < n → f (a + i) = g (b + i)) : segF f a n = segF g b n :=
  List.map_congr_left fun i hi => h i (by simpa using hi)
theorem segF_mem {f : Nat → α} {a n : Nat} {x : α} (h : x ∈ segF f a n) : ∃ i, a ≤ i ∧ i < a + n ∧ f i = x := by
  obtain ⟨i, hi, rfl⟩ := List.mem_map.1 h
  exact ⟨a + i, by omega, by have := List.mem_range.1 hi; omega, rfl⟩
theorem segF_zero (f : Nat → α) (a : Nat) : segF f a 0 = [] := rfl
theorem segF_one (f : Nat → α) (a : Nat) : segF f a 1 = [f a] := rfl
variable (p : α → Int)
def DescF (f : Nat → α) (a b : Nat) : Prop := ∀ i j, a ≤ i → i < j → j < b → p (f j) ≤ p (f i)
variable {p}
theorem DescF.seg {f : Nat → α} {a n : Nat} (h : DescF p f a (a + n)) : Desc p (segF f a n) := by
  unfold Desc segF
  rw [List.pairwise_map]
  refine List.Pairwise.imp_of_mem ?_ List.pairwise_lt_range
  intro i j hi hj hij
  have := List.mem_range.1 hj
  exact h _ _ (by omega) (by omega) (by omega)
theorem Desc.of_seg {f : Nat → α} {a n : Nat} (h : Desc p (segF f a n)) : DescF p f a (a + n) := by
  intro i j hi hij hj
  have h' := List.pairwise_iff_getElem.1 h (i - a) (j - a) (by simp [segF]; omega) (by simp [segF]; omega) (by omega)
  simp only [segF, List.getElem_map, List.getElem_range] at h'
  rwa [show a + (i - a) = i by omega, show a + (j - a) = j by omega] at h'
theorem DescF.part {f : Nat → α} {a b a' b' : Nat} (h : DescF p f a b) (h1 : a ≤ a') (h2 : b' ≤ b) : DescF p f a' b' := fun i j hi hij hj => h i j (by omega) hij (by omega)
theorem DescF.congr {f g : Nat → α} {a b : Nat} (h : DescF p f a b) (e : ∀ t, a ≤ t → t < b → g t = f t) : DescF p g a b := fun i j hi hij hj => by
  rw [e i hi (by omega), e j (by omega) hj]; exact h i j hi hij hj
theorem DescF.le {f : Nat → α} {a b : Nat} (h : DescF p f a b) {i j : Nat} (h1 : a ≤ i) (h2 : i ≤ j) (h3 : j < b) : p (f j) ≤ p (f i) := by
  by_cases e : i = j
  · subst e; exact Int.le_refl _
  · exact h i j h1 (by omega) h3

/-- Two parts changed for one another. -/
def swapF (f : Nat → α) (a b n : Nat) : Nat → α := fun t => if a ≤ t ∧ t < a + n then f (t + b - a) else if b ≤ t ∧ t < b + n then f (t + a - b) else f t
/-- [a, m) and [m, b) laid the other way round. -/
def rotF (f : Nat → α) (a m b : Nat) : Nat → α := fun t => if a ≤ t ∧ t < a + (b - m) then f (t + (m - a)) else if a + (b - m) ≤ t ∧ t < b then f (t - (b - m)) else f t
theorem rot_left (f : Nat → α) (m i j : Nat) (hi : i ≤ m) (h : j < i) (h0 : 0 < j) : rotF (swapF f (m - i) m j) (m - (i - j)) m (m + j) = rotF f (m - i) m (m + j) := by
  funext t
  simp only [rotF, swapF]
  repeat' split
  all_goals first | omega | (congr 1; omega) | rfl
theorem rot_right (f : Nat → α) (m i j : Nat) (hi : i ≤ m) (h : i < j) (h0 : 0 < i) : rotF (swapF f (m - i) (m + j - i) i) (m - i) m (m + (j - i)) = rotF f (m - i) m (m + j) := by
  funext t
  simp only [rotF, swapF]
  repeat' split
  all_goals first | omega | (congr 1; omega) | rfl
theorem rot_end (f : Nat → α) (m i : Nat) (hi : i ≤ m) : swapF f (m - i) m i = rotF f (m - i) m (m + i) := by
  funext t
  simp only [rotF, swapF]
  repeat' split
  all_goals first | omega | (congr 1; omega) | rfl
theorem rotF_out (f : Nat → α) {a m b t : Nat} (hm : m ≤ b) (ham : a ≤ m) (h : t < a ∨ b ≤ t) : rotF f a m b t = f t := by
  simp only [rotF]
  rw [if_neg (by omega), if_neg (by omega)]
theorem rotF_seg (f : Nat → α) {a m b : Nat} (ham : a ≤ m) (hmb : m ≤ b) : segF (rotF f a m b) a (b - a) = segF f m (b - m) ++ segF f a (m - a) := by
  rw [show b - a = (b - m) + (m - a) by omega, segF_add]
  congr 1
  · refine segF_congr fun i hi => ?_
    simp only [rotF]
    rw [if_pos (by omega)]; congr 1; omega
  · refine segF_congr fun i hi => ?_
    simp only [rotF]
    rw [if_neg (by omega), if_pos (by omega)]; congr 1; omega
/-- Two neighbours changed. -/
def swp1 (f : Nat → α) (i j : Nat) : Nat → α := fun t => if t = j then f i else if t = i then f j else f t
theorem rot_up (f : Nat → α) (a k : Nat) (hk : a ≤ k) : swp1 (rotF f a (a + 1) (k + 1)) k (k + 1) = rotF f a (a + 1) (k + 2) := by
  funext t
  simp only [rotF, swp1]
  repeat' split
  all_goals first | omega | (congr 1; omega) | rfl
theorem rot_up0 (f : Nat → α) (a : Nat) : rotF f a (a + 1) (a + 1) = f := by
  funext t
  simp only [rotF]
  repeat' split
  all_goals first | omega | (congr 1; omega) | rfl
theorem rot_down (f : Nat → α) (m k : Nat) (hk : k < m) : swp1 (rotF f (k + 1) m (m + 1)) (k + 1) k = rotF f k m (m + 1) := by
  funext t
  simp only [rotF, swp1]
  repeat' split
  all_goals first | omega | (congr 1; omega) | rfl
theorem rot_down0 (f : Nat → α) (m : Nat) : rotF f m m (m + 1) = f := by
  funext t
  simp only [rotF]
  repeat' split
  all_goals first | omega | (congr 1; omega) | rfl
theorem swap_step (f : Nat → α) (a b i : Nat) (h : a + i < b) : swp1 (swapF f a b i) (a + i) (b + i) = swapF f a b (i + 1) := by
  funext t
  simp only [swapF, swp1]
  repeat' split
  all_goals first | omega | (congr 1; omega) | rfl
theorem swap_zero (f : Nat → α) (a b : Nat) : swapF f a b 0 = f := by
  funext t
  simp only [swapF]
  repeat' split
  all_goals first | omega | rfl

theorem rot_none1 (f : Nat → α) (m b : Nat) : rotF f m m b = f := by
  funext t
  simp only [rotF]
  repeat' split
  all_goals first | omega | (congr 1; omega) | rfl
theorem rot_none2 (f : Nat → α) (a m : Nat) : rotF f a m m = f := by
  funext t
  simp only [rotF]
  repeat' split
  all_goals first | omega | (congr 1; omega) | rfl
/-- What comes of two sorted parts that lie side by side. -/
structure Merged (p : α → Int) (f g : Nat → α) (a b : Nat) : Prop where
  out : ∀ t, t < a ∨ b ≤ t → g t = f t
  desc : DescF p g a b
  alike : Alike p (segF g a (b - a)) (segF f a (b - a))
theorem Merged.refl {f : Nat → α} {a b : Nat} (h : DescF p f a b) : Merged p f f a b := ⟨fun _ _ => rfl, h, Alike.refl _ _⟩
/-- THE STEP OF THE MERGE: parted at 'start' and 'end', turned about, both halves merged. -/
theorem merged_step {f g1 g2 : Nat → α} {a m b mid start en : Nat} (h1 : a ≤ start) (h2 : start ≤ m) (h3 : m ≤ en) (h4 : en ≤ b) (hn : start + en = mid + m) (hmid : a ≤ mid ∧ mid ≤ b)
    (hX : DescF p f a m) (hY : DescF p f m b)
    (q1 : start = a ∨ en = b ∨ p (f en) ≤ p (f (start - 1))) (q2 : start = m ∨ en = m ∨ p (f start) < p (f (en - 1)))
    (m1 : Merged p (rotF f start m en) g1 a mid) (m2 : Merged p g1 g2 mid b) : Merged p f g2 a b := by
  have eL : segF (rotF f start m en) a (mid - a) = segF f a (start - a) ++ segF f m (en - m) := by
    rw [show mid - a = (start - a) + (en - m) by omega, segF_add]
    congr 1
    · refine segF_congr fun i hi => rotF_out f h3 h2 (by omega)
    · refine segF_congr fun i hi => ?_
      simp only [rotF]
      rw [if_pos (by omega)]; congr 1; omega
  have eR : segF (rotF f start m en) mid (b - mid) = segF f start (m - start) ++ segF f en (b - en) := by
    rw [show b - mid = (m - start) + (b - en) by omega, segF_add]
    congr 1
    · refine segF_congr fun i hi => ?_
      simp only [rotF]
      rw [if_neg (by omega), if_pos (by omega)]; congr 1; omega
    · refine segF_congr fun i hi => ?_
      rw [rotF_out f h3 h2 (by omega)]
      congr 1; omega
  have eR' : segF g1 mid (b - mid) = segF f start (m - start) ++ segF f en (b - en) := by
    rw [← eR]
    exact segF_congr fun i hi => m1.out _ (by omega)
  have eL' : segF g2 a (mid - a) = segF g1 a (mid - a) := segF_congr fun i hi => m2.out _ (by omega)
  have eX : segF f a (m - a) = segF f a (start - a) ++ segF f start (m - start) := by
    rw [show m - a = (start - a) + (m - start) by omega, segF_add]; congr 2; omega
  have eY : segF f m (b - m) = segF f m (en - m) ++ segF f en (b - en) := by
    rw [show b - m = (en - m) + (b - en) by omega, segF_add]; congr 2; omega
  have eA : segF f a (b - a) = segF f a (m - a) ++ segF f m (b - m) := by
    rw [show b - a = (m - a) + (b - m) by omega, segF_add]; congr 2; omega
  have eG : segF g2 a (b - a) = segF g1 a (mid - a) ++ segF g2 mid (b - mid) := by
    rw [← eL', show b - a = (mid - a) + (b - mid) by omega, segF_add]; congr 2; omega
  have dX : Desc p (segF f a (start - a) ++ segF f start (m - start)) := by
    rw [← eX]; exact DescF.seg (by rw [show a + (m - a) = m by omega]; exact hX)
  have dY : Desc p (segF f m (en - m) ++ segF f en (b - en)) := by
    rw [← eY]; exact DescF.seg (by rw [show m + (b - m) = b by omega]; exact hY)
  have d1 : Desc p (segF g1 a (mid - a)) := DescF.seg (by rw [show a + (mid - a) = mid by omega]; exact m1.desc)
  have d2 : Desc p (segF g2 mid (b - mid)) := DescF.seg (by rw [show mid + (b - mid) = b by omega]; exact m2.desc)
  obtain ⟨D, A⟩ := merge_step dX dY (fun x hx y hy => by
      obtain ⟨i, i1, i2, rfl⟩ := segF_mem hx
      obtain ⟨j, j1, j2, rfl⟩ := segF_mem hy
      have e1 : p (f (start - 1)) ≤ p (f i) := hX.le (by omega) (by omega) (by omega)
      have e2 : p (f j) ≤ p (f en) := hY.le (by omega) (by omega) (by omega)
      omega) (fun y hy x hx => by
      obtain ⟨i, i1, i2, rfl⟩ := segF_mem hx
      obtain ⟨j, j1, j2, rfl⟩ := segF_mem hy
      have e1 : p (f i) ≤ p (f start) := hX.le (by omega) (by omega) (by omega)
      have e2 : p (f (en - 1)) ≤ p (f j) := hY.le (by omega) (by omega) (by omega)
      omega) d1 (by rw [← eL]; exact m1.alike) d2 (by rw [← eR']; exact m2.alike)
  refine ⟨fun t ht => ?_, ?_, ?_⟩
  · rw [m2.out t (by omega), m1.out t (by omega), rotF_out f h3 h2 (by omega)]
  · rw [← eG] at D
    have := Desc.of_seg D
    rwa [show a + (b - a) = b by omega] at this
  · rw [eG, eA, eX, eY]; exact A
/-- Where a half is empty nothing is left to do. -/
theorem merged_none {f : Nat → α} {a m b start en mid : Nat} (h1 : a ≤ start) (h2 : start ≤ m) (h3 : m ≤ en) (h4 : en ≤ b) (hn : start + en = mid + m) (hX : DescF p f a m) (hY : DescF p f m b) (hc : ¬ (a < start ∧ start < mid)) :
    DescF p (rotF f start m en) a mid := by
  by_cases e : start = a
  · subst e
    intro i j hi hij hj
    simp only [rotF]
    rw [if_pos (by omega), if_pos (by omega)]
    exact hY _ _ (by omega) (by omega) (by omega)
  · have : en = m := by omega
    subst this
    refine (hX.part (Nat.le_refl a) (b' := mid) (by omega)).congr fun t h5 h6 => rotF_out f (Nat.le_refl _) h2 (by omega)
theorem merged_none2 {f g : Nat → α} {a m b start en mid : Nat} (h1 : a ≤ start) (h2 : start ≤ m) (h3 : m ≤ en) (h4 : en ≤ b) (hn : start + en = mid + m) (hX : DescF p f a m) (hY : DescF p f m b) (hg : ∀ t, mid ≤ t → g t = rotF f start m en t) (hc : ¬ (mid < en ∧ en < b)) :
    DescF p g mid b := by
  by_cases e : en = b
  · subst e
    intro i j hi hij hj
    rw [hg _ (by omega), hg _ (by omega)]
    simp only [rotF]
    rw [if_neg (by omega), if_pos (by omega), if_neg (by omega), if_pos (by omega)]
    exact hX _ _ (by omega) (by omega) (by omega)
  · have : start = m := by omega
    subst this
    refine (hY.part (a' := mid) (by omega) (Nat.le_refl b)).congr fun t h5 h6 => ?_
    rw [hg t h5]
    by_cases ht : t < en
    · simp only [rotF]
      rw [if_pos (by omega)]; congr 1; omega
    · exact rotF_out f h3 (Nat.le_refl _) (by omega)
/-- ONE ELEMENT ahead of a sorted part. -/
theorem merged_one {f : Nat → α} {a i b : Nat} (h1 : a + 1 ≤ i) (h2 : i ≤ b) (hY : DescF p f (a + 1) b) (q1 : i = a + 1 ∨ p (f a) < p (f (i - 1))) (q2 : i = b ∨ p (f i) ≤ p (f a)) : Merged p f (rotF f a (a + 1) i) a b := by
  have eG : segF (rotF f a (a + 1) i) a (b - a) = (segF f (a + 1) (i - (a + 1)) ++ [f a]) ++ segF f i (b - i) := by
    rw [show b - a = (i - a) + (b - i) by omega, segF_add, rotF_seg f (by omega) h1]
    congr 1
    · rw [show a + 1 - a = 1 by omega, segF_one]
    · rw [show a + (i - a) = i by omega]
      exact segF_congr fun k hk => rotF_out f h1 (by omega) (by omega)
  have eF : segF f a (b - a) = ([f a] ++ segF f (a + 1) (i - (a + 1))) ++ segF f i (b - i) := by
    rw [show b - a = (1 + (i - (a + 1))) + (b - i) by omega, segF_add, segF_add, segF_one]
    congr 2; omega
  have e1 : ∀ y ∈ segF f (a + 1) (i - (a + 1)), p (f a) < p y := fun y hy => by
    obtain ⟨j, j1, j2, rfl⟩ := segF_mem hy
    have := hY.le (i := j) (j := i - 1) (by omega) (by omega) (by omega)
    omega
  have e2 : ∀ y ∈ segF f i (b - i), p y ≤ p (f a) := fun y hy => by
    obtain ⟨j, j1, j2, rfl⟩ := segF_mem hy
    have := hY.le (i := i) (j := j) (by omega) (by omega) (by omega)
    omega
  have dY : Desc p (segF f (a + 1) (i - (a + 1)) ++ segF f i (b - i)) := by
    have := DescF.seg (p := p) (f := f) (a := a + 1) (n := b - (a + 1)) (by rw [show a + 1 + (b - (a + 1)) = b by omega]; exact hY)
    rw [show b - (a + 1) = (i - (a + 1)) + (b - i) by omega, segF_add, show a + 1 + (i - (a + 1)) = i by omega] at this
    exact this
  obtain ⟨y1, y2, y3⟩ := List.pairwise_append.1 dY
  refine ⟨fun t ht => rotF_out f h1 (by omega) (by omega), ?_, ?_⟩
  · have : Desc p (segF (rotF f a (a + 1) i) a (b - a)) := by
      rw [eG]
      refine List.pairwise_append.2 ⟨List.pairwise_append.2 ⟨y1, by simp, fun u hu v hv => ?_⟩, y2, fun u hu v hv => ?_⟩
      · obtain rfl : v = f a := by simpa using hv
        have := e1 u hu; omega
      · rcases List.mem_append.1 hu with hu | hu
        · exact y3 u hu v hv
        · obtain rfl : u = f a := by simpa using hu
          exact e2 v hv
    have := Desc.of_seg this
    rwa [show a + (b - a) = b by omega] at this
  · rw [eG, eF]
    refine Alike.app (Alike.symm (alike_swap ?_)) (Alike.refl _ _)
    intro y hy x hx
    obtain rfl : x = f a := by simpa using hx
    exact e1 y hy
/-- ONE ELEMENT behind a sorted part. -/
theorem merged_last {f : Nat → α} {a i m : Nat} (h1 : a ≤ i) (h2 : i ≤ m) (hX : DescF p f a m) (q1 : i = a ∨ p (f m) ≤ p (f (i - 1))) (q2 : i = m ∨ p (f i) < p (f m)) : Merged p f (rotF f i m (m + 1)) a (m + 1) := by
  have eG : segF (rotF f i m (m + 1)) a (m + 1 - a) = segF f a (i - a) ++ ([f m] ++ segF f i (m - i)) := by
    rw [show m + 1 - a = (i - a) + (m + 1 - i) by omega, segF_add]
    congr 1
    · exact segF_congr fun k hk => rotF_out f (by omega) h2 (by omega)
    · rw [show a + (i - a) = i by omega, rotF_seg f h2 (by omega), show m + 1 - m = 1 by omega, segF_one]
  have eF : segF f a (m + 1 - a) = segF f a (i - a) ++ (segF f i (m - i) ++ [f m]) := by
    rw [show m + 1 - a = (i - a) + ((m - i) + 1) by omega, segF_add, segF_add, segF_one, show a + (i - a) = i by omega, show i + (m - i) = m by omega]
  have e1 : ∀ y ∈ segF f a (i - a), p (f m) ≤ p y := fun y hy => by
    obtain ⟨j, j1, j2, rfl⟩ := segF_mem hy
    have := hX.le (i := j) (j := i - 1) (by omega) (by omega) (by omega)
    omega
  have e2 : ∀ y ∈ segF f i (m - i), p y < p (f m) := fun y hy => by
    obtain ⟨j, j1, j2, rfl⟩ := segF_mem hy
    have := hX.le (i := i) (j := j) (by omega) (by omega) (by omega)
    omega
  have dX : Desc p (segF f a (i - a) ++ segF f i (m - i)) := by
    have := DescF.seg (p := p) (f := f) (a := a) (n := m - a) (by rw [show a + (m - a) = m by omega]; exact hX)
    rw [show m - a = (i - a) + (m - i) by omega, segF_add, show a + (i - a) = i by omega] at this
    exact this
  obtain ⟨y1, y2, y3⟩ := List.pairwise_append.1 dX
  refine ⟨fun t ht => rotF_out f (by omega) h2 (by omega), ?_, ?_⟩
  · have : Desc p (segF (rotF f i m (m + 1)) a (m + 1 - a)) := by
      rw [eG]
      refine List.pairwise_append.2 ⟨y1, List.pairwise_append.2 ⟨by simp, y2, fun u hu v hv => ?_⟩, fun u hu v hv => ?_⟩
      · obtain rfl : u = f m := by simpa using hu
        have := e2 v hv; omega
      · rcases List.mem_append.1 hv with hv | hv
        · obtain rfl : v = f m := by simpa using hv
          exact e1 u hu
        · exact y3 u hu v hv
    have := Desc.of_seg this
    rwa [show a + (m + 1 - a) = m + 1 by omega] at this
  · rw [eG, eF]
    refine Alike.app (Alike.refl _ _) (alike_swap ?_).symm
    intro y hy x hx
    obtain rfl : y = f m := by simpa using hy
    exact e2 x hx
end

/-! The insertion sort is stable. -/
section
open Go.Sort
variable {α : Type} {p : α → Int}
theorem alike_pair {f : Nat → α} {a b j : Nat} (ha : a ≤ j) (hb : j + 1 < b) (h : p (f j) < p (f (j + 1))) : Alike p (segF (swp1 f (j + 1) j) a (b - a)) (segF f a (b - a)) := by
  have e : ∀ g : Nat → α, segF g a (b - a) = segF g a (j - a) ++ (([g j] ++ [g (j + 1)]) ++ segF g (j + 2) (b - (j + 2))) := fun g => by
    rw [show b - a = (j - a) + (2 + (b - (j + 2))) by omega, segF_add, segF_add, show a + (j - a) = j by omega]
    rfl
  rw [e, e]
  have s1 : segF (swp1 f (j + 1) j) a (j - a) = segF f a (j - a) := segF_congr fun i hi => by simp only [swp1]; rw [if_neg (by omega), if_neg (by omega)]
  have s2 : segF (swp1 f (j + 1) j) (j + 2) (b - (j + 2)) = segF f (j + 2) (b - (j + 2)) := segF_congr fun i hi => by simp only [swp1]; rw [if_neg (by omega), if_neg (by omega)]
  rw [s1, s2]
  have s3 : swp1 f (j + 1) j j = f (j + 1) := by simp [swp1]
  have s4 : swp1 f (j + 1) j (j + 1) = f j := by simp [swp1]
  rw [s3, s4]
  refine Alike.app (Alike.refl _ _) (Alike.app (alike_swap ?_).symm (Alike.refl _ _))
  intro y hy x hx
  obtain rfl : y = f (j + 1) := by simpa using hy
  obtain rfl : x = f j := by simpa using hx
  exact h
def ltP (p : α → Int) : α → α → Bool := fun x y => decide (p y < p x)
theorem swo_ltP : SWO (ltP p) := ⟨fun x => by simp [ltP], fun x y z h1 h2 => by simp [ltP] at *; omega, fun x y z h1 h2 => by simp [ltP] at *; omega⟩
end
section
open Go.Sort
variable {α : Type} [Inhabited α] {p : α → Int}
def arrF (d : Array α) : Nat → α := fun i => d[i]!
theorem swp_fun (d : Array α) (i j : Nat) (hi : i < d.size) (hj : j < d.size) : arrF (swp d i j) = swp1 (arrF d) i j := by
  funext t
  unfold arrF swp1
  rw [swp_get d hi hj]
theorem insInner_alike (a b : Nat) : ∀ (j : Nat) (d : Array α), j < b → b ≤ d.size → (insInner (ltP p) a j d).size = d.size ∧ Alike p (segF (arrF (insInner (ltP p) a j d)) a (b - a)) (segF (arrF d) a (b - a))
  | 0, d, _, _ => ⟨rfl, Alike.refl _ _⟩
  | j + 1, d, hj, hb => by
    rw [insInner]
    split
    · rename_i hc
      simp only [Bool.and_eq_true, decide_eq_true_eq, ltP] at hc
      obtain ⟨i1, i2⟩ := insInner_alike a b j (swp d (j + 1) j) (by omega) (by rw [swp_size]; exact hb)
      refine ⟨by rw [i1, swp_size], i2.trans ?_⟩
      rw [swp_fun d (j + 1) j (by omega) (by omega)]
      exact alike_pair (by omega) (by omega) hc.2
    · exact ⟨rfl, Alike.refl _ _⟩
theorem insOuter_alike (a b : Nat) : ∀ (n i : Nat) (d : Array α), b - i = n → b ≤ d.size → (insOuter (ltP p) a b i d).size = d.size ∧ Alike p (segF (arrF (insOuter (ltP p) a b i d)) a (b - a)) (segF (arrF d) a (b - a))
  | 0, i, d, hn, hb => by
    rw [insOuter, if_neg (by omega)]
    exact ⟨rfl, Alike.refl _ _⟩
  | n + 1, i, d, hn, hb => by
    rw [insOuter, if_pos (by omega)]
    obtain ⟨i1, i2⟩ := insInner_alike (p := p) a b i d (by omega) hb
    obtain ⟨j1, j2⟩ := insOuter_alike a b n (i + 1) (insInner (ltP p) a i d) (by omega) (by omega)
    exact ⟨by rw [j1, i1], j2.trans i2⟩
/-- THE INSERTION SORT of a part. -/
theorem ins_merged (d : Array α) (a b : Nat) (hab : a ≤ b) (hb : b ≤ d.size) : (insertionSort (ltP p) d a b).size = d.size ∧ Merged p (arrF d) (arrF (insertionSort (ltP p) d a b)) a b := by
  obtain ⟨⟨h1, h2, _⟩, h3⟩ := insertionSort_holds (lt := ltP p) swo_ltP d a b hab hb
  refine ⟨h1, ⟨h2, fun i j hi hij hj => ?_, (insOuter_alike a b (b - (a + 1)) (a + 1) d rfl hb).2⟩⟩
  have := h3 i j hi hij hj
  simp [ltP] at this
  exact this
end
end Go.Proofs.YtnbklmmampdbfaaGreatDoor
namespace Go.Proofs.YtnbklmmampdbfaaGreatDoor
open Go Go.Shelf Go.RowKit Go.Lib Go.Sort
set_option maxRecDepth 20000

/-- What the walks of the stable sort ask of a program: its bodies, and their types; an element has k cells. -/
structure StP (P : Program) (k : Nat) : Prop where
  mixed : P.follows .mixedOrders = true
  f_swapRange : P.funcs[118]? = some Tryz.f118
  f_rotate : P.funcs[103]? = some Tryz.f103
  f_symMerge : P.funcs[79]? = some Tryz.f79
  f_insertionSort : P.funcs[78]? = some Tryz.f78
  f_stable : P.funcs[50]? = some Tryz.f50
  t0 : P.underlying 0 = some (TypeDesc.tuple #[])
  a0 : ∀ w, (isAgg 0).run P w = .ok false w
  z0 : ∀ w, (Go.sizeOf 0).run P w = .ok 1 w
  v0 : ∀ w, (zeroValue 0).run P w = .ok (Value.tuple #[]) w
  t3 : P.underlying 3 = some (TypeDesc.int IntKind.i64)
  a3 : ∀ w, (isAgg 3).run P w = .ok false w
  z3 : ∀ w, (Go.sizeOf 3).run P w = .ok 1 w
  v3 : ∀ w, (zeroValue 3).run P w = .ok (Value.int IntKind.i64 0) w
  t4 : P.underlying 4 = some (TypeDesc.bool)
  a4 : ∀ w, (isAgg 4).run P w = .ok false w
  z4 : ∀ w, (Go.sizeOf 4).run P w = .ok 1 w
  v4 : ∀ w, (zeroValue 4).run P w = .ok (Value.bool false) w
  tS : P.underlying 22 = some (TypeDesc.slice 35)
  aS : ∀ w, (isAgg 22).run P w = .ok false w
  zS : ∀ w, (Go.sizeOf 22).run P w = .ok 1 w
  vS : ∀ w, (zeroValue 22).run P w = .ok (Value.slice none 0 0) w
  tF : P.underlying 61 = some (TypeDesc.func #[35, 35] #[3] false)
  aF : ∀ w, (isAgg 61).run P w = .ok false w
  zF : ∀ w, (Go.sizeOf 61).run P w = .ok 1 w
  vF : ∀ w, (zeroValue 61).run P w = .ok (Value.nilFunc) w
  tU : P.underlying 160 = some (TypeDesc.int IntKind.u64)
  aU : ∀ w, (isAgg 160).run P w = .ok false w
  zU : ∀ w, (Go.sizeOf 160).run P w = .ok 1 w
  vU : ∀ w, (zeroValue 160).run P w = .ok (Value.int IntKind.u64 0) w
  aE : ∀ w, (isAgg 35).run P w = .ok true w
  zE : ∀ w, (Go.sizeOf 35).run P w = .ok k w
theorem stP : StP Tryz.prog 12 where
  mixed := by kernel_rfl
  f_swapRange := Tryz.func118
  f_rotate := Tryz.func103
  f_symMerge := Tryz.func79
  f_insertionSort := Tryz.func78
  f_stable := Tryz.func50
  t0 := Tryz.underlying0
  a0 := fun w => by kernel_rfl
  z0 := fun w => by kernel_rfl
  v0 := fun w => by kernel_rfl
  t3 := Tryz.underlying3
  a3 := fun w => by kernel_rfl
  z3 := fun w => by kernel_rfl
  v3 := fun w => by kernel_rfl
  t4 := Tryz.underlying4
  a4 := fun w => by kernel_rfl
  z4 := fun w => by kernel_rfl
  v4 := fun w => by kernel_rfl
  tS := Tryz.underlying22
  aS := fun w => by kernel_rfl
  zS := fun w => by kernel_rfl
  vS := fun w => by kernel_rfl
  tF := Tryz.underlying61
  aF := fun w => by kernel_rfl
  zF := fun w => by kernel_rfl
  vF := fun w => by kernel_rfl
  tU := Tryz.underlying160
  aU := fun w => by kernel_rfl
  zU := fun w => by kernel_rfl
  vU := fun w => by kernel_rfl
  aE := fun w => by kernel_rfl
  zE := fun w => by kernel_rfl

variable {α : Type} [Inhabited α]
set_option maxHeartbeats 8000000 in
set_option maxRecDepth 1000000 in
/-- slices.swapRangeCmpFunc: it exchanges and does not compare. -/
theorem swapRange_any {P : Program} {k : Nat} (L : StP P k) (enc : α → List Value) (g : Nat) (cb : Array Value) (blk off cap a b n : Nat) (d0 d : Array α) (w0 w : World)
    (R : RowK enc k w0 blk off d0) (hs : d0.size = d.size) (S : SWK enc k w0 blk off d w) (hab : a + n ≤ b) (hb : b + n ≤ d.size) (hsz : d.size < 4611686018427387904) :
    Calls P 118 #[.slice (some ⟨blk, off, none⟩) d.size cap, .int .i64 a, .int .i64 b, .int .i64 n, .func (.func g) #[] cb] w fun e w' => e = .returned (.tuple #[]) ∧ ∃ d', d'.size = d.size ∧ SWK enc k w0 blk off d' w' ∧ arrF d' = swapF (arrF d) a b n := by
  have mixed := L.mixed
  have t0 := L.t0; have a0 := L.a0; have z0 := L.z0; have v0 := L.v0
  have t3 := L.t3; have a3 := L.a3; have z3 := L.z3; have v3 := L.v3
  have t4 := L.t4; have a4 := L.a4; have z4 := L.z4; have v4 := L.v4
  have tS := L.tS; have aS := L.aS; have zS := L.zS; have vS := L.vS
  have tF := L.tF; have aF := L.aF; have zF := L.zF; have vF := L.vF
  have aE := L.aE; have zE := L.zE
  have FG := L.f_swapRange
  have S0 : Aside (SWK enc k w0 blk off d w) := S
  clear S
  go_enter FG, Tryz.ntmps118
  go_wp2
  go_loopg [10] n (fun kx s10 wr => ∃ (i : Nat) (dk : Array α), s10 = .int .i64 i ∧ i ≤ n ∧ n - i ≤ kx ∧ dk.size = d.size ∧ Aside (SWK enc k w0 blk off dk wr) ∧ Hid (arrF dk = swapF (arrF d) a b i))
  case atStart => exact ⟨0, d, rfl, Nat.zero_le _, Nat.le_refl _, rfl, S0, (swap_zero _ _ _).symm⟩
  case round =>
    clear S0
    obtain ⟨i, dk, rfl, hin, hkx, hds, S1, HE⟩ := hrel
    by_cases hlt : i < n
    · have hltz : (i : Int) < (n : Int) := by omega
      go_wp2_with fail
      have ea44 : ((a : Int) + (i : Int)).toNat = a + i := by omega
      have pa44 : (0 : Int) ≤ (a : Int) + (i : Int) := by omega
      have ba44 : (a : Int) + (i : Int) < (d.size : Int) := by omega
      have ra44 : IntKind.i64.wrap ((a : Int) + (i : Int)) = (a : Int) + (i : Int) := by rw [IntKind.wrap_i64]; omega
      have ec44 : ((b : Int) + (i : Int)).toNat = b + i := by omega
      have pc44 : (0 : Int) ≤ (b : Int) + (i : Int) := by omega
      have bc44 : (b : Int) + (i : Int) < (d.size : Int) := by omega
      have rc44 : IntKind.i64.wrap ((b : Int) + (i : Int)) = (b : Int) + (i : Int) := by rw [IntKind.wrap_i64]; omega
      have S2 : Aside (SWK enc k w0 blk off (swp dk (a + i) (b + i)) ((wr.drew.setCells blk (off + (a + i) * k) (enc dk[b + i]!)).setCells blk (off + (b + i) * k) (enc dk[a + i]!))) := S1.out.swapped R (a + i) (b + i) (by omega) (by omega)
      have HE2 : Hid (arrF (swp dk (a + i) (b + i)) = swapF (arrF d) a b (i + 1)) := by
        show _ = _
        rw [swp_fun dk _ _ (by omega) (by omega), HE.out, swap_step _ _ _ _ (by omega)]
      have l44a := S1.out.ld1 R (by omega) P (a + i) (by omega)
      have l44b := S1.out.ld1 R (by omega) P (b + i) (by omega)
      have s44a := S1.out.st1 R (by omega) P (a + i) (by omega) dk[b + i]!
      have s44b := S1.out.st2 R (by omega) P (a + i) (b + i) (by omega) (by omega) dk[b + i]! dk[a + i]!
      have n44a : (enc dk[a + i]!).length = k := R.hk _
      have n44b : (enc dk[b + i]!).length = k := R.hk _
      generalize enc dk[a + i]! = cI44 at S2 l44a s44b n44a
      generalize enc dk[b + i]! = cJ44 at S2 l44b s44a s44b n44b
      clear S1
      go_wp2_with fail
      go_big_region_o
      clear l44a l44b s44a s44b
      generalize (wr.drew.setCells blk (off + (a + i) * k) cJ44).setCells blk (off + (b + i) * k) cI44 = w2 at S2 ⊢
      go_wp2
      go_roundg (n - (i + 1))
      case measure => omega
      case rel => exact ⟨i + 1, swp dk (a + i) (b + i), by go_num, by omega, Nat.le_refl _, by rw [size_swp]; exact hds, S2, HE2⟩
    · have hltz : ¬ (i : Int) < (n : Int) := by omega
      obtain rfl : i = n := by omega
      go_wp2
      go_end0
      exact ⟨rfl, dk, hds, S1.out, HE.out⟩
end Go.Proofs.YtnbklmmampdbfaaGreatDoor
namespace Go.Proofs.YtnbklmmampdbfaaGreatDoor
open Go Go.Shelf Go.RowKit Go.Lib Go.Sort
set_option maxRecDepth 20000

variable {α : Type} [Inhabited α]
set_option maxHeartbeats 8000000 in
set_option maxRecDepth 1000000 in
/-- slices.rotateCmpFunc: two parts side by side are laid the other way round. -/
theorem rotate_any {P : Program} {k : Nat} (L : StP P k) (enc : α → List Value) (g : Nat) (cb : Array Value) (blk off cap a m b : Nat) (d0 d : Array α) (w0 w : World)
    (R : RowK enc k w0 blk off d0) (hs : d0.size = d.size) (S : SWK enc k w0 blk off d w) (ham : a < m) (hmb : m < b) (hb : b ≤ d.size) (hsz : d.size < 4611686018427387904) :
    Calls P 103 #[.slice (some ⟨blk, off, none⟩) d.size cap, .int .i64 a, .int .i64 m, .int .i64 b, .func (.func g) #[] cb] w fun e w' => e = .returned (.tuple #[]) ∧ ∃ d', d'.size = d.size ∧ SWK enc k w0 blk off d' w' ∧ arrF d' = rotF (arrF d) a m b := by
  have mixed := L.mixed
  have t0 := L.t0; have a0 := L.a0; have z0 := L.z0; have v0 := L.v0
  have t3 := L.t3; have a3 := L.a3; have z3 := L.z3; have v3 := L.v3
  have t4 := L.t4; have a4 := L.a4; have z4 := L.z4; have v4 := L.v4
  have tS := L.tS; have aS := L.aS; have zS := L.zS; have vS := L.vS
  have tF := L.tF; have aF := L.aF; have zF := L.zF; have vF := L.vF
  have aE := L.aE; have zE := L.zE
  have FG := L.f_rotate
  have e118 : ∀ args w, (callFunc 118 args).run P w = .ok (.enter 118 args) w := enters_of L.f_swapRange (by kernel_rfl) rfl
  have S0 : Aside (SWK enc k w0 blk off d w) := S
  clear S
  have LL : Hid (StP P k) := L
  clear L
  go_enter FG, Tryz.ntmps103
  go_wp2
  go_loopg [10, 11] (b - a) (fun kx s10 s11 wr => ∃ (i j : Nat) (dk : Array α), s10 = .int .i64 i ∧ s11 = .int .i64 j ∧ 0 < i ∧ 0 < j ∧ i ≤ m ∧ m + j ≤ b ∧ i + j ≤ kx ∧ dk.size = d.size ∧ Aside (SWK enc k w0 blk off dk wr) ∧ Hid (rotF (arrF dk) (m - i) m (m + j) = rotF (arrF d) a m b))
  case atStart => exact ⟨m - a, b - m, d, by rw [show ((m - a : Nat) : Int) = (m : Int) - (a : Int) by omega], by rw [show ((b - m : Nat) : Int) = (b : Int) - (m : Int) by omega], by omega, by omega, by omega, by omega, by omega, rfl, S0, by show _ = _; rw [show m - (m - a) = a by omega, show m + (b - m) = b by omega]⟩
  case round =>
    clear S0
    obtain ⟨i, j, dk, rfl, rfl, hi0, hj0, him, hjb, hkx, hds, S1, HE⟩ := hrel
    have em : ((m - i : Nat) : Int) = (m : Int) - (i : Int) := by omega
    by_cases hij : i = j
    · subst hij
      have hc := swapRange_any LL.out enc g cb blk off cap (m - i) m i d0 dk w0 wr R (by omega) S1.out (by omega) (by omega) (by omega)
      rw [em, hds] at hc
      have HE2 : Hid (∀ d' : Array α, arrF d' = swapF (arrF dk) (m - i) m i → arrF d' = rotF (arrF d) a m b) := fun d' h => by rw [h, rot_end _ _ _ him, HE.out]
      clear S1 HE
      go_wp2_with (go_at_fn 118; refine hc.mono ?_; rintro e w1 ⟨rfl, d', hd', S3, hE⟩)
      go_end0
      exact ⟨rfl, d', hd', S3, HE2.out d' hE⟩
    · have hijz : ¬ (i : Int) = (j : Int) := by omega
      by_cases hlt : j < i
      · have hltz : (j : Int) < (i : Int) := by omega
        have hc := swapRange_any LL.out enc g cb blk off cap (m - i) m j d0 dk w0 wr R (by omega) S1.out (by omega) (by omega) (by omega)
        rw [em, hds] at hc
        have HE2 : Hid (∀ d' : Array α, arrF d' = swapF (arrF dk) (m - i) m j → rotF (arrF d') (m - (i - j)) m (m + j) = rotF (arrF d) a m b) := fun d' h => by rw [h, rot_left _ _ _ _ him hlt hj0, HE.out]
        clear S1 HE
        go_wp2_with (go_at_fn 118; refine hc.mono ?_; rintro e w1 ⟨rfl, d', hd', S3, hE⟩)
        go_roundg (i - j + j)
        case measure => omega
        case rel => exact ⟨i - j, j, d', by rw [show ((i - j : Nat) : Int) = (i : Int) - (j : Int) by omega], rfl, by omega, hj0, by omega, hjb, by omega, hd', S3, HE2.out d' hE⟩
      · have hltz : ¬ (j : Int) < (i : Int) := by omega
        have hc := swapRange_any LL.out enc g cb blk off cap (m - i) (m + j - i) i d0 dk w0 wr R (by omega) S1.out (by omega) (by omega) (by omega)
        rw [em, show ((m + j - i : Nat) : Int) = (m : Int) + (j : Int) - (i : Int) by omega, hds] at hc
        have HE2 : Hid (∀ d' : Array α, arrF d' = swapF (arrF dk) (m - i) (m + j - i) i → rotF (arrF d') (m - i) m (m + (j - i)) = rotF (arrF d) a m b) := fun d' h => by rw [h, rot_right _ _ _ _ him (by omega) hi0, HE.out]
        clear S1 HE
        go_wp2_with (go_at_fn 118; refine hc.mono ?_; rintro e w1 ⟨rfl, d', hd', S3, hE⟩)
        go_roundg (i + (j - i))
        case measure => omega
        case rel => exact ⟨i, j - i, d', rfl, by rw [show ((j - i : Nat) : Int) = (j : Int) - (i : Int) by omega], hi0, by omega, him, by omega, by omega, hd', S3, HE2.out d' hE⟩
end Go.Proofs.YtnbklmmampdbfaaGreatDoor
namespace Go.Proofs.YtnbklmmampdbfaaGreatDoor
open Go Go.Shelf Go.RowKit Go.Lib Go.Sort
set_option maxRecDepth 20000

variable {α : Type} [Inhabited α]
set_option maxHeartbeats 16000000 in
set_option maxRecDepth 1000000 in
/-- slices.symMergeCmpFunc where the first part is one element. -/
theorem sym_one {P : Program} {k : Nat} (L : StP P k) (enc : α → List Value) (p : α → Int) (cf : α → α → Int) (hcf : ∀ x y, cf x y < 0 ↔ p y < p x) (g : Nat) (cb : Array Value) (blk off cap : Nat) (d0 : Array α) (w0 : World)
    (eg : ∀ args w, (callFunc g args).run P w = .ok (.enter g args) w) (hcmp : CmpLays P g cb enc k cf blk off d0.size w0) (R : RowK enc k w0 blk off d0) (a m b : Nat) (hm : m = a + 1) (d : Array α) (w : World) (hs : d0.size = d.size) (S : SWK enc k w0 blk off d w) (hab : m < b) (hb : b ≤ d.size) (hsz : d.size < 4611686018427387904) (hY : DescF p (arrF d) m b) :
    Calls P 79 #[.slice (some ⟨blk, off, none⟩) d.size cap, .int .i64 a, .int .i64 m, .int .i64 b, .func (.func g) #[] cb] w fun e w' => e = .returned (.tuple #[]) ∧ ∃ d', d'.size = d.size ∧ SWK enc k w0 blk off d' w' ∧ Merged p (arrF d) (arrF d') a b := by
  have mixed := L.mixed
  have t0 := L.t0; have a0 := L.a0; have z0 := L.z0; have v0 := L.v0
  have t3 := L.t3; have a3 := L.a3; have z3 := L.z3; have v3 := L.v3
  have t4 := L.t4; have a4 := L.a4; have z4 := L.z4; have v4 := L.v4
  have tS := L.tS; have aS := L.aS; have zS := L.zS; have vS := L.vS
  have tF := L.tF; have aF := L.aF; have zF := L.zF; have vF := L.vF
  have tU := L.tU; have aU := L.aU; have zU := L.zU; have vU := L.vU
  have aE := L.aE; have zE := L.zE
  have FG := L.f_symMerge
  have HC : Aside _ := hcmp
  have S0 : Aside (SWK enc k w0 blk off d w) := S
  have HF : Hid (∀ x y, cf x y < 0 ↔ p y < p x) := hcf
  have HY : Hid (DescF p (arrF d) m b) := hY
  have HM : Hid (m = a + 1) := hm
  have hmz : (m : Int) - (a : Int) = 1 := by omega
  have ham : a < m := by omega
  clear hcmp S hcf hY L hm
  go_enter FG, Tryz.ntmps79
  go_wp2
  go_loopg [10, 11] (b - m) (fun kx s10 s11 wr => ∃ (i j : Nat), s10 = .int .i64 i ∧ s11 = .int .i64 j ∧ m ≤ i ∧ i ≤ j ∧ j ≤ b ∧ j - i ≤ kx ∧ Aside (SWK enc k w0 blk off d wr) ∧ Hid (i = m ∨ p (arrF d a) < p (arrF d (i - 1))) ∧ Hid (j = b ∨ p (arrF d j) ≤ p (arrF d a)))
  case atStart => exact ⟨m, b, rfl, rfl, Nat.le_refl _, by omega, Nat.le_refl _, Nat.le_refl _, S0, .inl rfl, .inl rfl⟩
  case round =>
    clear S0
    obtain ⟨i, j, rfl, rfl, hai, hij, hjb, hkx, S1, HI, HJ⟩ := hrel
    by_cases hlt : i < j
    · have hltz : (i : Int) < (j : Int) := by omega
      obtain ⟨h, hh⟩ : ∃ h, h = (i + j) / 2 := ⟨_, rfl⟩
      have hhz : ((i : Int) + (j : Int)) / 2 = (h : Int) := by omega
      have hh1 : i ≤ h := by omega
      have hh2 : h < j := by omega
      clear hh
      by_cases hv : cf d[h]! d[a]! < 0
      · have HN : Hid (h + 1 = m ∨ p (arrF d a) < p (arrF d (h + 1 - 1))) := .inr ((HF.out _ _).1 hv)
        have ea24 : ((h : Int)).toNat = h := by omega
        have pa24 : (0 : Int) ≤ (h : Int) := by omega
        have ba24 : (h : Int) < (d.size : Int) := by omega
        have ra24 : IntKind.i64.wrap ((h : Int)) = (h : Int) := by rw [IntKind.wrap_i64]; omega
        have ec24 : ((a : Int)).toNat = a := by omega
        have pc24 : (0 : Int) ≤ (a : Int) := by omega
        have bc24 : (a : Int) < (d.size : Int) := by omega
        have rc24 : IntKind.i64.wrap ((a : Int)) = (a : Int) := by rw [IntKind.wrap_i64]; omega
        obtain ⟨x24, hx24⟩ : ∃ x, x = d[h]! := ⟨_, rfl⟩
        obtain ⟨y24, hy24⟩ : ∃ x, x = d[a]! := ⟨_, rfl⟩
        have l24a := S1.out.ld R (by omega) P (h) (by omega)
        have l24b := S1.out.ld R (by omega) P (a) (by omega)
        rw [← hx24] at l24a
        rw [← hy24] at l24b
        have hc24 := S1.out.cmp HC.out (by omega) x24 y24
        have hv24 : cf x24 y24 < 0 := by rw [hx24, hy24]; exact hv
        have hd24 : decide (cf x24 y24 < 0) = true := decide_eq_true hv24
        clear hx24 hy24 hv
        go_wp2_with fail
        go_quiet_grown (first | (go_at_fn g; refine Calls.grown_of (hc24 _ _)))
        have S2 : Aside (SWK enc k w0 blk off d (grow (wr.drewN nq) osq)) := S1.out.grown nq osq
        clear l24a l24b hc24 S1
        generalize grow (wr.drewN nq) osq = w2 at S2 ⊢
        clear nq osq
        go_wp2
        go_roundg (j - (h + 1))
        case measure => omega
        case rel => exact ⟨h + 1, j, by go_num, rfl, by omega, by omega, hjb, Nat.le_refl _, S2, HN, HJ⟩
      · have HN : Hid (h = b ∨ p (arrF d h) ≤ p (arrF d a)) := .inr (by have := mt (HF.out d[h]! d[a]!).2 hv; exact Int.not_lt.1 this)
        have ea25 : ((h : Int)).toNat = h := by omega
        have pa25 : (0 : Int) ≤ (h : Int) := by omega
        have ba25 : (h : Int) < (d.size : Int) := by omega
        have ra25 : IntKind.i64.wrap ((h : Int)) = (h : Int) := by rw [IntKind.wrap_i64]; omega
        have ec25 : ((a : Int)).toNat = a := by omega
        have pc25 : (0 : Int) ≤ (a : Int) := by omega
        have bc25 : (a : Int) < (d.size : Int) := by omega
        have rc25 : IntKind.i64.wrap ((a : Int)) = (a : Int) := by rw [IntKind.wrap_i64]; omega
        obtain ⟨x25, hx25⟩ : ∃ x, x = d[h]! := ⟨_, rfl⟩
        obtain ⟨y25, hy25⟩ : ∃ x, x = d[a]! := ⟨_, rfl⟩
        have l25a := S1.out.ld R (by omega) P (h) (by omega)
        have l25b := S1.out.ld R (by omega) P (a) (by omega)
        rw [← hx25] at l25a
        rw [← hy25] at l25b
        have hc25 := S1.out.cmp HC.out (by omega) x25 y25
        have hv25 : ¬ cf x25 y25 < 0 := by rw [hx25, hy25]; exact hv
        have hd25 : decide (cf x25 y25 < 0) = false := decide_eq_false hv25
        clear hx25 hy25 hv
        go_wp2_with fail
        go_quiet_grown (first | (go_at_fn g; refine Calls.grown_of (hc25 _ _)))
        have S2 : Aside (SWK enc k w0 blk off d (grow (wr.drewN nq) osq)) := S1.out.grown nq osq
        clear l25a l25b hc25 S1
        generalize grow (wr.drewN nq) osq = w2 at S2 ⊢
        clear nq osq
        go_wp2
        go_roundg (h - i)
        case measure => omega
        case rel => exact ⟨i, h, rfl, rfl, hai, hh1, by omega, Nat.le_refl _, S2, HI, HN⟩
    · have hltz : ¬ (i : Int) < (j : Int) := by omega
      obtain rfl : i = j := by omega
      go_wp2
      go_loopg [13] b (fun kx s13 wr2 => ∃ (q : Nat) (dk : Array α), s13 = .int .i64 q ∧ a ≤ q ∧ q + 1 ≤ i ∧ i - q ≤ kx ∧ dk.size = d.size ∧ Aside (SWK enc k w0 blk off dk wr2) ∧ Hid (arrF dk = rotF (arrF d) a (a + 1) (q + 1)))
      case atStart => exact ⟨a, d, rfl, Nat.le_refl _, by omega, by omega, rfl, S1, (rot_up0 _ _).symm⟩
      case round =>
        clear S1
        obtain ⟨q, dk, rfl, haq, hqi, hkx2, hds, S1, HE⟩ := hrel
        by_cases hq : q + 1 < i
        · have hqz : (q : Int) < (i : Int) - 1 := by omega
          have HE2 : Hid (arrF (swp dk q (q + 1)) = rotF (arrF d) a (a + 1) (q + 1 + 1)) := by
            show _ = _
            rw [swp_fun dk _ _ (by omega) (by omega), HE.out, rot_up _ _ _ haq]
          go_wp2_with fail
          have ea44 : ((q : Int)).toNat = q := by omega
          have pa44 : (0 : Int) ≤ (q : Int) := by omega
          have ba44 : (q : Int) < (d.size : Int) := by omega
          have ra44 : IntKind.i64.wrap ((q : Int)) = (q : Int) := by rw [IntKind.wrap_i64]; omega
          have ec44 : ((q : Int) + 1).toNat = q + 1 := by omega
          have pc44 : (0 : Int) ≤ (q : Int) + 1 := by omega
          have bc44 : (q : Int) + 1 < (d.size : Int) := by omega
          have rc44 : IntKind.i64.wrap ((q : Int) + 1) = (q : Int) + 1 := by rw [IntKind.wrap_i64]; omega
          have S2 : Aside (SWK enc k w0 blk off (swp dk (q) (q + 1)) ((wr.drew.setCells blk (off + (q) * k) (enc dk[q + 1]!)).setCells blk (off + (q + 1) * k) (enc dk[q]!))) := S1.out.swapped R (q) (q + 1) (by omega) (by omega)
          have l44a := S1.out.ld1 R (by omega) P (q) (by omega)
          have l44b := S1.out.ld1 R (by omega) P (q + 1) (by omega)
          have s44a := S1.out.st1 R (by omega) P (q) (by omega) dk[q + 1]!
          have s44b := S1.out.st2 R (by omega) P (q) (q + 1) (by omega) (by omega) dk[q + 1]! dk[q]!
          have n44a : (enc dk[q]!).length = k := R.hk _
          have n44b : (enc dk[q + 1]!).length = k := R.hk _
          generalize enc dk[q]! = cI44 at S2 l44a s44b n44a
          generalize enc dk[q + 1]! = cJ44 at S2 l44b s44a s44b n44b
          clear S1
          go_wp2_with fail
          go_big_region_o
          clear l44a l44b s44a s44b
          generalize (wr.drew.setCells blk (off + (q) * k) cJ44).setCells blk (off + (q + 1) * k) cI44 = w2 at S2 ⊢
          go_wp2
          go_roundg (i - (q + 1))
          case measure => omega
          case rel => exact ⟨q + 1, swp dk q (q + 1), by go_num, by omega, by omega, Nat.le_refl _, by rw [size_swp]; exact hds, S2, HE2⟩
        · have hqz : ¬ (q : Int) < (i : Int) - 1 := by omega
          obtain rfl : i = q + 1 := by omega
          go_wp2
          (try simp only [Exit.inBlock, Exit.then]); refine bodyPost_ret (results_none rfl _ _ _) rfl ?_
          refine ⟨rfl, dk, hds, S1.out, ?_⟩
          rw [HE.out]
          obtain rfl := HM.out
          exact merged_one (by omega) hjb HY.out HI.out HJ.out
set_option maxHeartbeats 16000000 in
set_option maxRecDepth 1000000 in
/-- slices.symMergeCmpFunc where the second part is one element. -/
theorem sym_last {P : Program} {k : Nat} (L : StP P k) (enc : α → List Value) (p : α → Int) (cf : α → α → Int) (hcf : ∀ x y, cf x y < 0 ↔ p y < p x) (g : Nat) (cb : Array Value) (blk off cap : Nat) (d0 : Array α) (w0 : World)
    (eg : ∀ args w, (callFunc g args).run P w = .ok (.enter g args) w) (hcmp : CmpLays P g cb enc k cf blk off d0.size w0) (R : RowK enc k w0 blk off d0) (a m b : Nat) (hm : b = m + 1) (d : Array α) (w : World) (hs : d0.size = d.size) (S : SWK enc k w0 blk off d w) (ham : a + 1 < m) (hb : b ≤ d.size) (hsz : d.size < 4611686018427387904) (hX : DescF p (arrF d) a m) :
    Calls P 79 #[.slice (some ⟨blk, off, none⟩) d.size cap, .int .i64 a, .int .i64 m, .int .i64 b, .func (.func g) #[] cb] w fun e w' => e = .returned (.tuple #[]) ∧ ∃ d', d'.size = d.size ∧ SWK enc k w0 blk off d' w' ∧ Merged p (arrF d) (arrF d') a b := by
  have mixed := L.mixed
  have t0 := L.t0; have a0 := L.a0; have z0 := L.z0; have v0 := L.v0
  have t3 := L.t3; have a3 := L.a3; have z3 := L.z3; have v3 := L.v3
  have t4 := L.t4; have a4 := L.a4; have z4 := L.z4; have v4 := L.v4
  have tS := L.tS; have aS := L.aS; have zS := L.zS; have vS := L.vS
  have tF := L.tF; have aF := L.aF; have zF := L.zF; have vF := L.vF
  have tU := L.tU; have aU := L.aU; have zU := L.zU; have vU := L.vU
  have aE := L.aE; have zE := L.zE
  have FG := L.f_symMerge
  have HC : Aside _ := hcmp
  have S0 : Aside (SWK enc k w0 blk off d w) := S
  have HF : Hid (∀ x y, cf x y < 0 ↔ p y < p x) := hcf
  have HX : Hid (DescF p (arrF d) a m) := hX
  have hne : (((m : Int) - (a : Int)) == 1) = false := by simp; omega
  have HM : Hid (b = m + 1) := hm
  have hmz : (b : Int) - (m : Int) = 1 := by omega
  have hmb : m < b := by omega
  clear hcmp S hcf hX L hm
  go_enter FG, Tryz.ntmps79
  go_wp2
  go_loopg [14, 15] (m - a) (fun kx s10 s11 wr => ∃ (i j : Nat), s10 = .int .i64 i ∧ s11 = .int .i64 j ∧ a ≤ i ∧ i ≤ j ∧ j ≤ m ∧ j - i ≤ kx ∧ Aside (SWK enc k w0 blk off d wr) ∧ Hid (i = a ∨ p (arrF d m) ≤ p (arrF d (i - 1))) ∧ Hid (j = m ∨ p (arrF d j) < p (arrF d m)))
  case atStart => exact ⟨a, m, rfl, rfl, Nat.le_refl _, by omega, Nat.le_refl _, Nat.le_refl _, S0, .inl rfl, .inl rfl⟩
  case round =>
    clear S0
    obtain ⟨i, j, rfl, rfl, hai, hij, hjb, hkx, S1, HI, HJ⟩ := hrel
    by_cases hlt : i < j
    · have hltz : (i : Int) < (j : Int) := by omega
      obtain ⟨h, hh⟩ : ∃ h, h = (i + j) / 2 := ⟨_, rfl⟩
      have hhz : ((i : Int) + (j : Int)) / 2 = (h : Int) := by omega
      have hh1 : i ≤ h := by omega
      have hh2 : h < j := by omega
      clear hh
      by_cases hv : cf d[m]! d[h]! < 0
      · have HN : Hid (h = m ∨ p (arrF d h) < p (arrF d m)) := .inr ((HF.out _ _).1 hv)
        have ea24 : ((m : Int)).toNat = m := by omega
        have pa24 : (0 : Int) ≤ (m : Int) := by omega
        have ba24 : (m : Int) < (d.size : Int) := by omega
        have ra24 : IntKind.i64.wrap ((m : Int)) = (m : Int) := by rw [IntKind.wrap_i64]; omega
        have ec24 : ((h : Int)).toNat = h := by omega
        have pc24 : (0 : Int) ≤ (h : Int) := by omega
        have bc24 : (h : Int) < (d.size : Int) := by omega
        have rc24 : IntKind.i64.wrap ((h : Int)) = (h : Int) := by rw [IntKind.wrap_i64]; omega
        obtain ⟨x24, hx24⟩ : ∃ x, x = d[m]! := ⟨_, rfl⟩
        obtain ⟨y24, hy24⟩ : ∃ x, x = d[h]! := ⟨_, rfl⟩
        have l24a := S1.out.ld R (by omega) P (m) (by omega)
        have l24b := S1.out.ld R (by omega) P (h) (by omega)
        rw [← hx24] at l24a
        rw [← hy24] at l24b
        have hc24 := S1.out.cmp HC.out (by omega) x24 y24
        have hv24 : cf x24 y24 < 0 := by rw [hx24, hy24]; exact hv
        have hd24 : decide (cf x24 y24 < 0) = true := decide_eq_true hv24
        clear hx24 hy24 hv
        go_wp2_with fail
        go_quiet_grown (first | (go_at_fn g; refine Calls.grown_of (hc24 _ _)))
        have S2 : Aside (SWK enc k w0 blk off d (grow (wr.drewN nq) osq)) := S1.out.grown nq osq
        clear l24a l24b hc24 S1
        generalize grow (wr.drewN nq) osq = w2 at S2 ⊢
        clear nq osq
        go_wp2
        go_roundg (h - i)
        case measure => omega
        case rel => exact ⟨i, h, rfl, rfl, hai, hh1, by omega, Nat.le_refl _, S2, HI, HN⟩
      · have HN : Hid (h + 1 = a ∨ p (arrF d m) ≤ p (arrF d (h + 1 - 1))) := .inr (by have := mt (HF.out d[m]! d[h]!).2 hv; exact Int.not_lt.1 this)
        have ea25 : ((m : Int)).toNat = m := by omega
        have pa25 : (0 : Int) ≤ (m : Int) := by omega
        have ba25 : (m : Int) < (d.size : Int) := by omega
        have ra25 : IntKind.i64.wrap ((m : Int)) = (m : Int) := by rw [IntKind.wrap_i64]; omega
        have ec25 : ((h : Int)).toNat = h := by omega
        have pc25 : (0 : Int) ≤ (h : Int) := by omega
        have bc25 : (h : Int) < (d.size : Int) := by omega
        have rc25 : IntKind.i64.wrap ((h : Int)) = (h : Int) := by rw [IntKind.wrap_i64]; omega
        obtain ⟨x25, hx25⟩ : ∃ x, x = d[m]! := ⟨_, rfl⟩
        obtain ⟨y25, hy25⟩ : ∃ x, x = d[h]! := ⟨_, rfl⟩
        have l25a := S1.out.ld R (by omega) P (m) (by omega)
        have l25b := S1.out.ld R (by omega) P (h) (by omega)
        rw [← hx25] at l25a
        rw [← hy25] at l25b
        have hc25 := S1.out.cmp HC.out (by omega) x25 y25
        have hv25 : ¬ cf x25 y25 < 0 := by rw [hx25, hy25]; exact hv
        have hd25 : decide (cf x25 y25 < 0) = false := decide_eq_false hv25
        clear hx25 hy25 hv
        go_wp2_with fail
        go_quiet_grown (first | (go_at_fn g; refine Calls.grown_of (hc25 _ _)))
        have S2 : Aside (SWK enc k w0 blk off d (grow (wr.drewN nq) osq)) := S1.out.grown nq osq
        clear l25a l25b hc25 S1
        generalize grow (wr.drewN nq) osq = w2 at S2 ⊢
        clear nq osq
        go_wp2
        go_roundg (j - (h + 1))
        case measure => omega
        case rel => exact ⟨h + 1, j, by go_num, rfl, by omega, by omega, hjb, Nat.le_refl _, S2, HN, HJ⟩
    · have hltz : ¬ (i : Int) < (j : Int) := by omega
      obtain rfl : i = j := by omega
      go_wp2
      go_loopg [17] (m + 1) (fun kx s13 wr2 => ∃ (q : Nat) (dk : Array α), s13 = .int .i64 q ∧ i ≤ q ∧ q ≤ m ∧ q ≤ kx ∧ dk.size = d.size ∧ Aside (SWK enc k w0 blk off dk wr2) ∧ Hid (arrF dk = rotF (arrF d) q m (m + 1)))
      case atStart => exact ⟨m, d, rfl, hjb, Nat.le_refl _, by omega, rfl, S1, (rot_down0 _ _).symm⟩
      case round =>
        clear S1
        obtain ⟨q, dk, rfl, haq, hqi, hkx2, hds, S1, HE⟩ := hrel
        by_cases hq : i < q
        · obtain ⟨q', rfl⟩ : ∃ q', q = q' + 1 := ⟨q - 1, by omega⟩
          have hqz : (i : Int) < (q' : Int) + 1 := by omega
          have HE2 : Hid (arrF (swp dk (q' + 1) q') = rotF (arrF d) q' m (m + 1)) := by
            show _ = _
            rw [swp_fun dk _ _ (by omega) (by omega), HE.out, rot_down _ _ _ (by omega)]
          go_wp2_with fail
          have ea44 : ((q' : Int) + 1).toNat = q' + 1 := by omega
          have pa44 : (0 : Int) ≤ (q' : Int) + 1 := by omega
          have ba44 : (q' : Int) + 1 < (d.size : Int) := by omega
          have ra44 : IntKind.i64.wrap ((q' : Int) + 1) = (q' : Int) + 1 := by rw [IntKind.wrap_i64]; omega
          have ec44 : ((q' : Int)).toNat = q' := by omega
          have pc44 : (0 : Int) ≤ (q' : Int) := by omega
          have bc44 : (q' : Int) < (d.size : Int) := by omega
          have rc44 : IntKind.i64.wrap ((q' : Int)) = (q' : Int) := by rw [IntKind.wrap_i64]; omega
          have S2 : Aside (SWK enc k w0 blk off (swp dk (q' + 1) (q')) ((wr.drew.setCells blk (off + (q' + 1) * k) (enc dk[q']!)).setCells blk (off + (q') * k) (enc dk[q' + 1]!))) := S1.out.swapped R (q' + 1) (q') (by omega) (by omega)
          have l44a := S1.out.ld1 R (by omega) P (q' + 1) (by omega)
          have l44b := S1.out.ld1 R (by omega) P (q') (by omega)
          have s44a := S1.out.st1 R (by omega) P (q' + 1) (by omega) dk[q']!
          have s44b := S1.out.st2 R (by omega) P (q' + 1) (q') (by omega) (by omega) dk[q']! dk[q' + 1]!
          have n44a : (enc dk[q' + 1]!).length = k := R.hk _
          have n44b : (enc dk[q']!).length = k := R.hk _
          generalize enc dk[q' + 1]! = cI44 at S2 l44a s44b n44a
          generalize enc dk[q']! = cJ44 at S2 l44b s44a s44b n44b
          clear S1
          go_wp2_with fail
          go_big_region_o
          clear l44a l44b s44a s44b
          generalize (wr.drew.setCells blk (off + (q' + 1) * k) cJ44).setCells blk (off + (q') * k) cI44 = w2 at S2 ⊢
          go_wp2
          go_roundg q'
          case measure => omega
          case rel => exact ⟨q', swp dk (q' + 1) q', by first | rfl | go_num, by omega, by omega, Nat.le_refl _, by rw [size_swp]; exact hds, S2, HE2⟩
        · have hqz : ¬ (i : Int) < (q : Int) := by omega
          obtain rfl : i = q := by omega
          go_wp2
          (try simp only [Exit.inBlock, Exit.then]); refine bodyPost_ret (results_none rfl _ _ _) rfl ?_
          refine ⟨rfl, dk, hds, S1.out, ?_⟩
          rw [HE.out]
          obtain rfl := HM.out
          exact merged_last hai hjb HX.out HI.out HJ.out
end Go.Proofs.YtnbklmmampdbfaaGreatDoor
namespace Go.Proofs.YtnbklmmampdbfaaGreatDoor
open Go Go.Shelf Go.RowKit Go.Lib Go.Sort
set_option maxRecDepth 20000

variable {α : Type} [Inhabited α]
set_option maxHeartbeats 16000000 in
set_option maxRecDepth 1000000 in
/-- slices.symMergeCmpFunc: two sorted parts side by side become one, those of one number in their order. -/
theorem sym_step {P : Program} {k : Nat} (L : StP P k) (enc : α → List Value) (p : α → Int) (cf : α → α → Int) (hcf : ∀ x y, cf x y < 0 ↔ p y < p x) (g : Nat) (cb : Array Value) (blk off cap : Nat) (d0 : Array α) (w0 : World)
    (eg : ∀ args w, (callFunc g args).run P w = .ok (.enter g args) w) (hcmp : CmpLays P g cb enc k cf blk off d0.size w0) (R : RowK enc k w0 blk off d0) (N : Nat)
    (IH : Hid (∀ (a m b : Nat) (d : Array α) (w : World), b - a ≤ N → d0.size = d.size → SWK enc k w0 blk off d w → a < m → m < b → b ≤ d.size → d.size < 4611686018427387904 → DescF p (arrF d) a m → DescF p (arrF d) m b →
      Calls P 79 #[.slice (some ⟨blk, off, none⟩) d.size cap, .int .i64 a, .int .i64 m, .int .i64 b, .func (.func g) #[] cb] w fun e w' => e = .returned (.tuple #[]) ∧ ∃ d', d'.size = d.size ∧ SWK enc k w0 blk off d' w' ∧ Merged p (arrF d) (arrF d') a b))
    (a m b : Nat) (d : Array α) (w : World) (hN : b - a ≤ N + 1) (hs : d0.size = d.size) (S : SWK enc k w0 blk off d w) (ham : a + 1 < m) (hmb : m + 1 < b) (hb : b ≤ d.size) (hsz : d.size < 4611686018427387904) (hX : DescF p (arrF d) a m) (hY : DescF p (arrF d) m b) :
    Calls P 79 #[.slice (some ⟨blk, off, none⟩) d.size cap, .int .i64 a, .int .i64 m, .int .i64 b, .func (.func g) #[] cb] w fun e w' => e = .returned (.tuple #[]) ∧ ∃ d', d'.size = d.size ∧ SWK enc k w0 blk off d' w' ∧ Merged p (arrF d) (arrF d') a b := by
  have mixed := L.mixed
  have t0 := L.t0; have a0 := L.a0; have z0 := L.z0; have v0 := L.v0
  have t3 := L.t3; have a3 := L.a3; have z3 := L.z3; have v3 := L.v3
  have t4 := L.t4; have a4 := L.a4; have z4 := L.z4; have v4 := L.v4
  have tS := L.tS; have aS := L.aS; have zS := L.zS; have vS := L.vS
  have tF := L.tF; have aF := L.aF; have zF := L.zF; have vF := L.vF
  have tU := L.tU; have aU := L.aU; have zU := L.zU; have vU := L.vU
  have aE := L.aE; have zE := L.zE
  have FG := L.f_symMerge
  have e103 : ∀ args w, (callFunc 103 args).run P w = .ok (.enter 103 args) w := enters_of L.f_rotate (by kernel_rfl) rfl
  have e79 : ∀ args w, (callFunc 79 args).run P w = .ok (.enter 79 args) w := enters_of L.f_symMerge (by kernel_rfl) rfl
  have HC : Aside _ := hcmp
  have S0 : Aside (SWK enc k w0 blk off d w) := S
  have HF : Hid (∀ x y, cf x y < 0 ↔ p y < p x) := hcf
  have HX : Hid (DescF p (arrF d) a m) := hX
  have HY : Hid (DescF p (arrF d) m b) := hY
  have hne : (((m : Int) - (a : Int)) == 1) = false := by simp; omega
  have hne2 : (((b : Int) - (m : Int)) == 1) = false := by simp; omega
  have LL : Hid (StP P k) := L
  have HCM : Hid (CmpLays P g cb enc k cf blk off d0.size w0) := hcmp
  obtain ⟨mid, hm0⟩ : ∃ h, h = (a + b) / 2 := ⟨_, rfl⟩
  have hmz : ((a : Int) + (b : Int)) / 2 = (mid : Int) := by omega
  have hm1 : a < mid := by omega
  have hm2 : mid < b := by omega
  have hm3 : a + b ≤ mid + mid + 1 := by omega
  have hm4 : mid + mid ≤ a + b := by omega
  clear hcmp S hcf hX hY L hm0
  go_enter FG, Tryz.ntmps79
  go_upto_if 140 with fail
  generalize hb : decide ((mid : Int) < (m : Int)) = tb
  have HB : Hid (decide ((mid : Int) < (m : Int)) = tb) := hb
  clear hb
  go_cut [20, 21] from 141 to 146 (fun s20 s21 wx => ∃ (s r : Nat), s20 = .int .i64 s ∧ s21 = .int .i64 r ∧ a ≤ s ∧ s ≤ r ∧ r ≤ m ∧ mid + m ≤ b + s ∧ r ≤ mid ∧ Hid ((s = a ∨ s + b = mid + m) ∧ (r = m ∨ r = mid)) ∧ Aside (SWK enc k w0 blk off d wx))
  case first =>
    cases tb with
    | true =>
      have h : mid < m := by have := of_decide_eq_true HB.out; omega
      go_wp2
      go_meet
      case rel => exact ⟨mid + m - b, mid, by rw [show ((mid + m - b : Nat) : Int) = (mid : Int) + (m : Int) - (b : Int) by omega], rfl, by omega, by omega, by omega, by omega, by omega, ⟨.inr (by omega), .inr rfl⟩, S0⟩
    | false =>
      have h : ¬ mid < m := by have := of_decide_eq_false HB.out; omega
      go_wp2
      go_meet
      case rel => exact ⟨a, m, rfl, rfl, by omega, by omega, by omega, by omega, by omega, ⟨.inl rfl, .inl rfl⟩, S0⟩
  case rest =>
    clear S0
    obtain ⟨s0, r0, rfl, rfl, hs1, hs2, hs3, hs4, hs5, HSR, S0⟩ := hcut
    go_wp2
    go_loopg [20, 21] (r0 - s0) (fun kx s20 s21 wr => ∃ (i j : Nat), s20 = .int .i64 i ∧ s21 = .int .i64 j ∧ s0 ≤ i ∧ i ≤ j ∧ j ≤ r0 ∧ j - i ≤ kx ∧ Aside (SWK enc k w0 blk off d wr) ∧ Hid (i = s0 ∨ p (arrF d (mid + m - i)) ≤ p (arrF d (i - 1))) ∧ Hid (j = r0 ∨ p (arrF d j) < p (arrF d (mid + m - j - 1))))
    case atStart => exact ⟨s0, r0, rfl, rfl, Nat.le_refl _, hs2, Nat.le_refl _, Nat.le_refl _, S0, .inl rfl, .inl rfl⟩
    case round =>
      clear S0
      obtain ⟨i, j, rfl, rfl, hai, hij, hjb, hkx, S1, HI, HJ⟩ := hrel
      by_cases hlt : i < j
      · have hltz : (i : Int) < (j : Int) := by omega
        obtain ⟨h, hh⟩ : ∃ h, h = (i + j) / 2 := ⟨_, rfl⟩
        have hhz : ((i : Int) + (j : Int)) / 2 = (h : Int) := by omega
        have hh1 : i ≤ h := by omega
        have hh2 : h < j := by omega
        clear hh
        obtain ⟨u, hu⟩ : ∃ u, u = mid + m - 1 - h := ⟨_, rfl⟩
        have huz : (mid : Int) + (m : Int) - 1 - (h : Int) = (u : Int) := by omega
        have hub : u < b := by omega
        have HU : Hid (u = mid + m - 1 - h) := hu
        clear hu
        by_cases hv : cf d[u]! d[h]! < 0
        · have HN : Hid (h = r0 ∨ p (arrF d h) < p (arrF d (mid + m - h - 1))) := .inr (by have hu := HU.out; rw [show mid + m - h - 1 = u by omega]; exact (HF.out _ _).1 hv)
          have ea24 : ((u : Int)).toNat = u := by omega
          have pa24 : (0 : Int) ≤ (u : Int) := by omega
          have ba24 : (u : Int) < (d.size : Int) := by omega
          have ra24 : IntKind.i64.wrap ((u : Int)) = (u : Int) := by rw [IntKind.wrap_i64]; omega
          have ec24 : ((h : Int)).toNat = h := by omega
          have pc24 : (0 : Int) ≤ (h : Int) := by omega
          have bc24 : (h : Int) < (d.size : Int) := by omega
          have rc24 : IntKind.i64.wrap ((h : Int)) = (h : Int) := by rw [IntKind.wrap_i64]; omega
          obtain ⟨x24, hx24⟩ : ∃ x, x = d[u]! := ⟨_, rfl⟩
          obtain ⟨y24, hy24⟩ : ∃ x, x = d[h]! := ⟨_, rfl⟩
          have l24a := S1.out.ld R (by omega) P (u) (by omega)
          have l24b := S1.out.ld R (by omega) P (h) (by omega)
          rw [← hx24] at l24a
          rw [← hy24] at l24b
          have hc24 := S1.out.cmp HC.out (by omega) x24 y24
          have hv24 : cf x24 y24 < 0 := by rw [hx24, hy24]; exact hv
          have hd24 : decide (cf x24 y24 < 0) = true := decide_eq_true hv24
          clear hx24 hy24 hv
          go_wp2_with fail
          go_quiet_grown (first | (go_at_fn g; refine Calls.grown_of (hc24 _ _)))
          have S2 : Aside (SWK enc k w0 blk off d (grow (wr.drewN nq) osq)) := S1.out.grown nq osq
          clear l24a l24b hc24 S1
          generalize grow (wr.drewN nq) osq = w2 at S2 ⊢
          clear nq osq
          go_wp2
          go_roundg (h - i)
          case measure => omega
          case rel => exact ⟨i, h, rfl, rfl, hai, hh1, by omega, Nat.le_refl _, S2, HI, HN⟩
        · have HN : Hid (h + 1 = s0 ∨ p (arrF d (mid + m - (h + 1))) ≤ p (arrF d (h + 1 - 1))) := .inr (by have := mt (HF.out d[u]! d[h]!).2 hv; have hu := HU.out; rw [show mid + m - (h + 1) = u by omega]; exact Int.not_lt.1 this)
          have ea25 : ((u : Int)).toNat = u := by omega
          have pa25 : (0 : Int) ≤ (u : Int) := by omega
          have ba25 : (u : Int) < (d.size : Int) := by omega
          have ra25 : IntKind.i64.wrap ((u : Int)) = (u : Int) := by rw [IntKind.wrap_i64]; omega
          have ec25 : ((h : Int)).toNat = h := by omega
          have pc25 : (0 : Int) ≤ (h : Int) := by omega
          have bc25 : (h : Int) < (d.size : Int) := by omega
          have rc25 : IntKind.i64.wrap ((h : Int)) = (h : Int) := by rw [IntKind.wrap_i64]; omega
          obtain ⟨x25, hx25⟩ : ∃ x, x = d[u]! := ⟨_, rfl⟩
          obtain ⟨y25, hy25⟩ : ∃ x, x = d[h]! := ⟨_, rfl⟩
          have l25a := S1.out.ld R (by omega) P (u) (by omega)
          have l25b := S1.out.ld R (by omega) P (h) (by omega)
          rw [← hx25] at l25a
          rw [← hy25] at l25b
          have hc25 := S1.out.cmp HC.out (by omega) x25 y25
          have hv25 : ¬ cf x25 y25 < 0 := by rw [hx25, hy25]; exact hv
          have hd25 : decide (cf x25 y25 < 0) = false := decide_eq_false hv25
          clear hx25 hy25 hv
          go_wp2_with fail
          go_quiet_grown (first | (go_at_fn g; refine Calls.grown_of (hc25 _ _)))
          have S2 : Aside (SWK enc k w0 blk off d (grow (wr.drewN nq) osq)) := S1.out.grown nq osq
          clear l25a l25b hc25 S1
          generalize grow (wr.drewN nq) osq = w2 at S2 ⊢
          clear nq osq
          go_wp2
          go_roundg (j - (h + 1))
          case measure => omega
          case rel => exact ⟨h + 1, j, by go_num, rfl, by omega, by omega, hjb, Nat.le_refl _, S2, HN, HJ⟩
      · have hltz : ¬ (i : Int) < (j : Int) := by omega
        obtain rfl : i = j := by omega
        obtain ⟨en, hen⟩ : ∃ en, en = mid + m - i := ⟨_, rfl⟩
        have henz : (mid : Int) + (m : Int) - (i : Int) = (en : Int) := by omega
        have hsum : i + en = mid + m := by omega
        have h1 : a ≤ i := by omega
        have h2 : i ≤ m := by omega
        have h3 : m ≤ en := by omega
        have h4 : en ≤ b := by omega
        have Q : Hid ((i = a ∨ en = b ∨ p (arrF d en) ≤ p (arrF d (i - 1))) ∧ (i = m ∨ en = m ∨ p (arrF d i) < p (arrF d (en - 1)))) := by
          obtain ⟨g1, g2⟩ := HSR.out
          refine ⟨?_, ?_⟩
          · rcases HI.out with e | e
            · rcases g1 with g1 | g1
              · left; omega
              · right; left; omega
            · right; right; rw [hen]; exact e
          · rcases HJ.out with e | e
            · rcases g2 with g2 | g2
              · left; omega
              · right; left; omega
            · right; right; rw [hen]; exact e
        clear hen HSR HI HJ
        go_upto_region 39 with fail
        go_cut [185] from 178 to 185 (fun c wx => c = .bool (decide (i < m ∧ m < en)) ∧ Aside (SWK enc k w0 blk off d wx))
        case first =>
          by_cases c1 : i < m
          · have c1z : (i : Int) < (m : Int) := by omega
            by_cases c2 : m < en
            · have c2z : (m : Int) < (en : Int) := by omega
              have HV : Hid (decide (i < m ∧ m < en) = true) := decide_eq_true ⟨c1, c2⟩
              go_wp2
              go_meet
              case rel => exact ⟨by rw [HV.out], S1⟩
            · have c2z : ¬ (m : Int) < (en : Int) := by omega
              have HV : Hid (decide (i < m ∧ m < en) = false) := decide_eq_false (by omega)
              go_wp2
              go_meet
              case rel => exact ⟨by rw [HV.out], S1⟩
          · have c1z : ¬ (i : Int) < (m : Int) := by omega
            have HV : Hid (decide (i < m ∧ m < en) = false) := decide_eq_false (by omega)
            go_wp2
            go_meet
            case rel => exact ⟨by rw [HV.out], S1⟩
        case rest =>
        clear S1
        obtain ⟨rfl, S1⟩ := hcut
        generalize hb1 : decide (i < m ∧ m < en) = tb1
        have HB1 : Hid (decide (i < m ∧ m < en) = tb1) := hb1
        clear hb1
        go_upto_if 185 with fail
        go_cut [] from 186 to 191 (fun wx => ∃ d1 : Array α, d1.size = d.size ∧ arrF d1 = rotF (arrF d) i m en ∧ Aside (SWK enc k w0 blk off d1 wx))
        case first =>
          cases tb1 with
          | true =>
            obtain ⟨c1, c2⟩ := of_decide_eq_true HB1.out
            have hc := rotate_any LL.out enc g cb blk off cap i m en d0 d w0 wc R hs S1.out c1 c2 (by omega) hsz
            clear S1
            go_wp2_with (go_at_fn 103; refine hc.mono ?_; rintro e w1 ⟨rfl, d1, hd1, S3, hE⟩)
            go_meet
            case rel => exact ⟨d1, hd1, hE, S3⟩
          | false =>
            have hE : Hid (arrF d = rotF (arrF d) i m en) := by
              have := of_decide_eq_false HB1.out
              by_cases c1 : i = m
              · rw [c1, rot_none1]; rfl
              · have c2 : en = m := by omega
                rw [c2, rot_none2]; rfl
            go_wp2
            go_meet
            case rel => exact ⟨d, rfl, hE.out, S1⟩
        case rest =>
          clear S1
          obtain ⟨d1, hd1, hE1, S1⟩ := hcut
          clear HB1
          have HE1 : Hid (arrF d1 = rotF (arrF d) i m en) := hE1
          clear hE1
          go_upto_region 41 with fail
          go_cut [199] from 192 to 199 (fun c wx => c = .bool (decide (a < i ∧ i < mid)) ∧ Aside (SWK enc k w0 blk off d1 wx))
          case first =>
            by_cases c1 : a < i
            · have c1z : (a : Int) < (i : Int) := by omega
              by_cases c2 : i < mid
              · have c2z : (i : Int) < (mid : Int) := by omega
                have HV : Hid (decide (a < i ∧ i < mid) = true) := decide_eq_true ⟨c1, c2⟩
                go_wp2
                go_meet
                case rel => exact ⟨by rw [HV.out], S1⟩
              · have c2z : ¬ (i : Int) < (mid : Int) := by omega
                have HV : Hid (decide (a < i ∧ i < mid) = false) := decide_eq_false (by omega)
                go_wp2
                go_meet
                case rel => exact ⟨by rw [HV.out], S1⟩
            · have c1z : ¬ (a : Int) < (i : Int) := by omega
              have HV : Hid (decide (a < i ∧ i < mid) = false) := decide_eq_false (by omega)
              go_wp2
              go_meet
              case rel => exact ⟨by rw [HV.out], S1⟩
          case rest =>
          clear S1
          obtain ⟨rfl, S1⟩ := hcut
          generalize hb2 : decide (a < i ∧ i < mid) = tb2
          have HB2 : Hid (decide (a < i ∧ i < mid) = tb2) := hb2
          clear hb2
          go_upto_if 199 with fail
          go_cut [] from 200 to 205 (fun wx => ∃ d2 : Array α, d2.size = d.size ∧ Merged p (arrF d1) (arrF d2) a mid ∧ Aside (SWK enc k w0 blk off d2 wx))
          case first =>
            cases tb2 with
            | true =>
              obtain ⟨c1, c2⟩ := of_decide_eq_true HB2.out
              have hc := IH.out a i mid d1 wc (by omega) (by omega) S1.out c1 c2 (by omega) (by omega) (by rw [HE1.out]; exact (HX.out.part (Nat.le_refl _) h2).congr fun t q1 q2 => rotF_out _ h3 h2 (by omega)) (by
                rw [HE1.out]
                intro x y q1 q2 q3
                simp only [rotF]
                rw [if_pos (by omega), if_pos (by omega)]
                exact HY.out _ _ (by omega) (by omega) (by omega))
              rw [hd1] at hc
              clear S1
              go_wp2_with (go_at_fn 79; refine hc.mono ?_; rintro e w1 ⟨rfl, d2, hd2, S3, hE⟩)
              go_meet
              case rel => exact ⟨d2, hd2, hE, S3⟩
            | false =>
              have M : Hid (Merged p (arrF d1) (arrF d1) a mid) := Merged.refl (by rw [HE1.out]; exact merged_none h1 h2 h3 h4 hsum HX.out HY.out (by have := of_decide_eq_false HB2.out; omega))
              go_wp2
              go_meet
              case rel => exact ⟨d1, hd1, M.out, S1⟩
          case rest =>
            clear S1
            obtain ⟨d2, hd2, hM, S1⟩ := hcut
            clear HB2
            have M1 : Hid (Merged p (arrF d1) (arrF d2) a mid) := hM
            have FIN : Hid (∀ g : Nat → α, Merged p (arrF d2) g mid b → Merged p (arrF d) g a b) := fun g hg => merged_step h1 h2 h3 h4 hsum ⟨by omega, by omega⟩ HX.out HY.out Q.out.1 Q.out.2 (by rw [← HE1.out]; exact M1.out) hg
            clear hM
            by_cases c1 : mid < en
            · have c1z : (mid : Int) < (en : Int) := by omega
              by_cases c2 : en < b
              · have c2z : (en : Int) < (b : Int) := by omega
                have hc := IH.out mid en b d2 wc (by omega) (by omega) S1.out c1 c2 (by omega) (by omega) (by
                  intro x y q1 q2 q3
                  rw [M1.out.out y (by omega), M1.out.out x (by omega), HE1.out]
                  simp only [rotF]
                  rw [if_neg (by omega), if_pos (by omega), if_neg (by omega), if_pos (by omega)]
                  exact HX.out _ _ (by omega) (by omega) (by omega)) ((HY.out.part h3 (Nat.le_refl _)).congr fun t q1 q2 => by rw [M1.out.out t (by omega), HE1.out, rotF_out _ h3 h2 (by omega)])
                rw [hd2] at hc
                clear S1
                go_wp2_with (go_at_fn 79; refine hc.mono ?_; rintro e w1 ⟨rfl, d3, hd3, S3, hE⟩)
                go_end0
                exact ⟨rfl, d3, hd3, S3, FIN.out _ hE⟩
              · have c2z : ¬ (en : Int) < (b : Int) := by omega
                have M : Hid (Merged p (arrF d2) (arrF d2) mid b) := Merged.refl (merged_none2 h1 h2 h3 h4 hsum HX.out HY.out (fun t ht => by rw [M1.out.out t (by omega), HE1.out]) (by omega))
                go_wp2
                go_end0
                exact ⟨rfl, d2, hd2, S1.out, FIN.out _ M.out⟩
            · have c1z : ¬ (mid : Int) < (en : Int) := by omega
              have M : Hid (Merged p (arrF d2) (arrF d2) mid b) := Merged.refl (merged_none2 h1 h2 h3 h4 hsum HX.out HY.out (fun t ht => by rw [M1.out.out t (by omega), HE1.out]) (by omega))
              go_wp2
              go_end0
              exact ⟨rfl, d2, hd2, S1.out, FIN.out _ M.out⟩
theorem symMerge_any {P : Program} {k : Nat} (L : StP P k) (enc : α → List Value) (p : α → Int) (cf : α → α → Int) (hcf : ∀ x y, cf x y < 0 ↔ p y < p x) (g : Nat) (cb : Array Value) (blk off cap : Nat) (d0 : Array α) (w0 : World)
    (eg : ∀ args w, (callFunc g args).run P w = .ok (.enter g args) w) (hcmp : CmpLays P g cb enc k cf blk off d0.size w0) (R : RowK enc k w0 blk off d0) : ∀ (N a m b : Nat) (d : Array α) (w : World), b - a ≤ N → d0.size = d.size → SWK enc k w0 blk off d w → a < m → m < b → b ≤ d.size → d.size < 4611686018427387904 → DescF p (arrF d) a m → DescF p (arrF d) m b →
    Calls P 79 #[.slice (some ⟨blk, off, none⟩) d.size cap, .int .i64 a, .int .i64 m, .int .i64 b, .func (.func g) #[] cb] w fun e w' => e = .returned (.tuple #[]) ∧ ∃ d', d'.size = d.size ∧ SWK enc k w0 blk off d' w' ∧ Merged p (arrF d) (arrF d') a b
  | 0, a, m, b, d, w, h, _, _, h1, h2, _, _, _, _ => by omega
  | N + 1, a, m, b, d, w, h, hs, S, h1, h2, hb, hsz, hX, hY => by
    by_cases c1 : m = a + 1
    · exact sym_one L enc p cf hcf g cb blk off cap d0 w0 eg hcmp R a m b c1 d w hs S h2 hb hsz hY
    · by_cases c2 : b = m + 1
      · exact sym_last L enc p cf hcf g cb blk off cap d0 w0 eg hcmp R a m b c2 d w hs S (by omega) hb hsz hX
      · exact sym_step L enc p cf hcf g cb blk off cap d0 w0 eg hcmp R N (symMerge_any L enc p cf hcf g cb blk off cap d0 w0 eg hcmp R N) a m b d w h hs S (by omega) (by omega) hb hsz hX hY
end Go.Proofs.YtnbklmmampdbfaaGreatDoor
namespace Go.Proofs.YtnbklmmampdbfaaGreatDoor
open Go
set_option maxRecDepth 20000

section
variable {α : Type} {p : α → Int}
/-- Sorted block by block, from a place on. -/
def BlkD (p : α → Int) (f : Nat → α) (s lo n : Nat) : Prop := ∀ i j, lo ≤ i → i < j → j < n → i / s = j / s → p (f j) ≤ p (f i)
theorem div_ge {t q j : Nat} (ht : 0 < t) (h : t * q ≤ j) : q ≤ j / t := (Nat.le_div_iff_mul_le ht).2 (by rw [Nat.mul_comm]; exact h)
theorem ge_of_div {t q i : Nat} (ht : 0 < t) (h : q ≤ i / t) : t * q ≤ i := by
  have := (Nat.le_div_iff_mul_le ht).1 h
  rwa [Nat.mul_comm] at this
theorem div_of_in {t q i : Nat} (h1 : t * q ≤ i) (h2 : i < t * q + t) : i / t = q := by
  refine Nat.div_eq_of_lt_le ?_ ?_
  · rw [Nat.mul_comm]; exact h1
  · rw [Nat.add_mul, Nat.one_mul, Nat.mul_comm q t]; exact h2
theorem Merged.whole {f g : Nat → α} {a b n : Nat} (h : Merged p f g a b) (hab : a ≤ b) (hb : b ≤ n) : Alike p (segF g 0 n) (segF f 0 n) := by
  have e : ∀ u : Nat → α, segF u 0 n = segF u 0 a ++ (segF u a (b - a) ++ segF u b (n - b)) := fun u => by
    rw [show n = a + ((b - a) + (n - b)) by omega, segF_add, segF_add, show 0 + a + (b - a) = b by omega, Nat.zero_add, show a + (b - a + (n - b)) - b = n - b by omega]
  rw [e, e]
  refine Alike.app ?_ (Alike.app h.alike ?_)
  · rw [segF_congr (f := g) (g := f) (a := 0) (b := 0) fun i hi => h.out _ (by omega)]; exact Alike.refl _ _
  · rw [segF_congr (f := g) (g := f) (a := b) (b := b) fun i hi => h.out _ (by omega)]; exact Alike.refl _ _
/-- A block more. -/
theorem blk_more {f g : Nat → α} {t q n b : Nat} (ht : 0 < t) (h : BlkD p f t 0 (t * q)) (hb1 : t * q ≤ b) (hb2 : b ≤ t * q + t) (m : Merged p f g (t * q) b) (hn : n = b) : BlkD p g t 0 n := by
  subst hn
  intro i j _ hij hj he
  by_cases c : t * q ≤ j
  · have hi : t * q ≤ i := ge_of_div ht (by rw [he]; exact div_ge ht c)
    exact m.desc i j hi hij hj
  · rw [m.out i (by omega), m.out j (by omega)]
    exact h i j (Nat.zero_le _) hij (by omega) he
/-- What lies behind stays. -/
theorem blk_behind {f g : Nat → α} {s a b n : Nat} (h : BlkD p f s a n) (hab : a ≤ b) (m : Merged p f g a b) : BlkD p g s b n := fun i j hi hij hj he => by
  rw [m.out i (by omega), m.out j (by omega)]
  exact h i j (by omega) hij hj he
theorem blk_desc {f : Nat → α} {s q a n : Nat} (h : BlkD p f s a n) (ha : a ≤ s * q) {b : Nat} (hb : b ≤ s * q + s) (hn : b ≤ n) : DescF p f (s * q) b := fun i j hi hij hj =>
  h i j (by omega) hij (by omega) (by rw [div_of_in hi (by omega), div_of_in (t := s) (q := q) (i := j) (by omega) (by omega)])
theorem blk_all {f : Nat → α} {s n : Nat} (h : BlkD p f s 0 n) (hs : n ≤ s) : DescF p f 0 n := fun i j hi hij hj =>
  h i j hi hij hj (by rw [Nat.div_eq_of_lt (by omega), Nat.div_eq_of_lt (by omega)])
theorem blk_none (f : Nat → α) (s : Nat) : BlkD p f s 0 0 := fun i j _ _ hj _ => by omega
theorem blk_from {f : Nat → α} {s n : Nat} (h : BlkD p f s 0 n) (a : Nat) : BlkD p f s a n := fun i j _ hij hj he => h i j (Nat.zero_le _) hij hj he
theorem blk_upto {f : Nat → α} {s lo n m : Nat} (h : BlkD p f s lo n) (hm : m ≤ n) : BlkD p f s lo m := fun i j hi hij hj he => h i j hi hij (by omega) he
end
end Go.Proofs.YtnbklmmampdbfaaGreatDoor
