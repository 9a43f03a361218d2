import Derived.Test.YtjmpakngbdemgaaJ9
import Derived.Test.YtjmpakngbdemgaaJ3
namespace Go.Proofs.Ytjmpakngbdemgaa
open Go Go.RowKit
set_option maxRecDepth 20000

/-- What holds at each moment of a drawn region: all that has come up has a value as is told; all other slots are as they were. -/
structure InvR (ops : Array Oper) (V : Nat → Value → World → Prop) (D : List Nat) (a0 : Act) (w0 : World) (listed : Array Bool) (a : Act) (w : World) : Prop where
  below : Below w0.heap.size w0 w
  size : a.tmps.size = a0.tmps.size
  defers : a.defers = a0.defers
  other : ∀ d, d ∉ D → a.eval (.tmp d) = a0.eval (.tmp d)
  has : ∀ j o d, ops[j]? = some o → o.dst = some d → listed.getD j false = true → V j (a.eval (.tmp d)) w
/-- What an operation finds when it comes up. -/
structure AtOp (ops : Array Oper) (V : Nat → Value → World → Prop) (D : List Nat) (a0 : Act) (w0 : World) (o : Oper) (a : Act) (w : World) : Prop where
  below : Below w0.heap.size w0 w
  size : a.tmps.size = a0.tmps.size
  defers : a.defers = a0.defers
  other : ∀ d, d ∉ D → a.eval (.tmp d) = a0.eval (.tmp d)
  has : ∀ e ∈ o.after, Region.binds .any e = true → ∀ oj d, ops[e.on]? = some oj → oj.dst = some d → V e.on (a.eval (.tmp d)) w
theorem dst_apart {ops : Array Oper} {D : List Nat} (hD : (ops.toList.filterMap (·.dst)) = D) (hnd : D.Nodup) {i j : Nat} {oi oj : Oper} {d : Nat} (hi : ops[i]? = some oi) (hj : ops[j]? = some oj) (di : oi.dst = some d) (dj : oj.dst = some d) : i = j := by
  subst hD
  rw [List.nodup_iff_pairwise_ne, List.pairwise_filterMap] at hnd
  rw [← Array.getElem?_toList] at hi hj
  obtain ⟨hi1, hi2⟩ := List.getElem?_eq_some_iff.1 hi
  obtain ⟨hj1, hj2⟩ := List.getElem?_eq_some_iff.1 hj
  rw [List.pairwise_iff_getElem] at hnd
  rcases Nat.lt_trichotomy i j with h | h | h
  · exact absurd rfl (hnd i j hi1 hj1 h d (by rw [hi2]; exact di) d (by rw [hj2]; exact dj))
  · exact h
  · exact absurd rfl (hnd j i hj1 hi1 h d (by rw [hj2]; exact dj) d (by rw [hi2]; exact di))
theorem falses_set (l : Array Bool) (i : Nat) (h : l.getD i true = false) : (l.setIfInBounds i true).toList.count false + 1 = l.toList.count false := by
  have hi : i < l.size := by
    rw [Array.getD_eq_getD_getElem?] at h
    rcases Nat.lt_or_ge i l.size with h1 | h1
    · exact h1
    · rw [Array.getElem?_eq_none h1] at h; simp at h
  have hv : l[i] = false := by
    rw [Array.getD_eq_getD_getElem?, Array.getElem?_eq_getElem hi] at h
    simpa using h
  rw [Array.toList_setIfInBounds]
  have hi' : i < l.toList.length := by simpa using hi
  have e : l.toList = l.toList.take i ++ false :: l.toList.drop (i + 1) := by
    have := List.drop_eq_getElem_cons hi'
    rw [show l.toList[i] = false by simpa using hv] at this
    rw [← this, List.take_append_drop]
  rw [List.set_eq_take_append_cons_drop, if_pos hi', e]
  have e2 : (l.toList.take i ++ false :: l.toList.drop (i + 1)).take i = l.toList.take i := by rw [← e]
  have e3 : (l.toList.take i ++ false :: l.toList.drop (i + 1)).drop (i + 1) = l.toList.drop (i + 1) := by rw [← e]
  rw [e2, e3, List.count_append, List.count_append, List.count_cons, List.count_cons]
  simp
  omega
theorem ready_none {md : Region.Mode} {ops : Array Oper} {l : Array Bool} (h : l.toList.count false = 0) : Region.ready md ops l = [] := by
  rw [List.eq_nil_iff_forall_not_mem]
  intro j hj
  have h1 := (mem_ready.1 hj).1
  rw [Array.getD_eq_getD_getElem?] at h1
  rcases Nat.lt_or_ge j l.size with h2 | h2
  · rw [Array.getElem?_eq_getElem h2] at h1
    have h3 : l[j] = false := by simpa using h1
    have : false ∈ l.toList := by rw [← h3]; exact Array.mem_toList_iff.2 (Array.getElem_mem h2)
    have := List.count_pos_iff.2 this
    omega
  · rw [Array.getElem?_eq_none h2] at h1; simp at h1
theorem getD_tf {l : Array Bool} {j : Nat} (h : l.getD j true = false) : l.getD j false = false := by
  rw [Array.getD_eq_getD_getElem?] at h ⊢
  rcases Nat.lt_or_ge j l.size with h2 | h2
  · rw [Array.getElem?_eq_getElem h2] at h ⊢; simpa using h
  · rw [Array.getElem?_eq_none h2]; rfl
theorem getD_set_ne' {l : Array Bool} {i j : Nat} (h : i ≠ j) (b c : Bool) : (l.setIfInBounds i b).getD j c = l.getD j c := by
  rw [Array.getD_eq_getD_getElem?, Array.getD_eq_getD_getElem?, Array.getElem?_setIfInBounds_ne h]
theorem ready_some {ops : Array Oper} {l : Array Bool} (hs : l.size = ops.size) (hdag : ∀ (i : Nat) (o : Oper), ops[i]? = some o → ∀ e ∈ o.after, e.on < i) : ∀ j, l.getD j true = false → Region.ready .any ops l ≠ [] := by
  intro j
  induction j using Nat.strongRecOn with
  | ind j ih =>
    intro hj hr
    have hjl : j < l.size := by
      rw [Array.getD_eq_getD_getElem?] at hj
      rcases Nat.lt_or_ge j l.size with h1 | h1
      · exact h1
      · rw [Array.getElem?_eq_none h1] at hj; simp at hj
    have ho : ops[j]? = some (ops[j]'(by omega)) := Array.getElem?_eq_getElem (by omega)
    by_cases hall : ∀ e ∈ (ops[j]'(by omega)).after, Region.binds .any e = true → l.getD e.on false = true
    · have : j ∈ Region.ready .any ops l := mem_ready.2 ⟨hj, _, ho, hall⟩
      rw [hr] at this
      simp at this
    · simp only [Classical.not_forall] at hall
      obtain ⟨e, he, hb, hl⟩ := hall
      have hlt := hdag j _ ho e he
      refine ih e.on hlt ?_ hr
      rw [Array.getD_eq_getD_getElem?, Array.getElem?_eq_getElem (by omega)] at hl ⊢
      simpa using hl
/-- A drawn region whose last operation waits for all others, and whose others make memory at most: in whatever order they come up, each finds what it waits for. -/
theorem region_inv {P : Program} {id : Nat} {Q : Exit → Act → World → Prop} {a0 : Act} {w0 : World} {lo : List Oper} (n : Nat) (V : Nat → Value → World → Prop) (D : List Nat) (hm : P.follows .mixedOrders = true)
    (hn : lo.length = n + 1) (hD : (lo.filterMap (·.dst)) = D) (hnd : D.Nodup) (hsz : ∀ d ∈ D, d < a0.tmps.size) (hdag : (lo.zipIdx.all fun x => x.1.after.all fun e => decide (e.on < x.2)) = true)
    (hlast : (lo[n]?).map (fun o => (List.range n).all fun j => o.after.any fun e => e.on == j && Region.binds .any e) = some true)
    (hV : ∀ j v w w', V j v w → Below w.heap.size w w' → V j v w')
    (hop : ∀ i o, lo[i]? = some o → i < n → ∀ a w, AtOp lo.toArray V D a0 w0.drew o a w → wpOp P lo.toArray Q i (fun a' w' => ∃ v, a' = a.put o.dst v ∧ Below w.heap.size w w' ∧ ∀ d, o.dst = some d → V i v w') a w)
    (hend : ∀ a w, Below w0.heap.size w0 w → a.tmps.size = a0.tmps.size → a.defers = a0.defers → (∀ d, d ∉ D → a.eval (.tmp d) = a0.eval (.tmp d)) → (∀ j o d, j < n → lo[j]? = some o → o.dst = some d → V j (a.eval (.tmp d)) w) → wpOp P lo.toArray Q n (fun a' w' => Q .normal a' w') a w) : (Code.region id lo.toArray true).wp P Q a0 w0 := by
  refine wp_region_any hm ?_
  have hdag' : ∀ (i : Nat) (o : Oper), lo.toArray[i]? = some o → ∀ e ∈ o.after, e.on < i := fun i o ho e he => by
    rw [List.all_eq_true] at hdag
    have ho' : lo[i]? = some o := by simpa using ho
    obtain ⟨hi, rfl⟩ := List.getElem?_eq_some_iff.1 ho'
    have := hdag (lo[i], i) (List.mem_zipIdx_iff_getElem?.2 (List.getElem?_eq_getElem hi))
    simp only [Array.all_eq_true_iff_forall_mem] at this
    simpa using this e he
  have hnd' := hnd
  have hDa : (lo.toArray.toList.filterMap (·.dst)) = D := by simpa using hD
  have inD : ∀ (i : Nat) (o : Oper) (d : Nat), lo.toArray[i]? = some o → o.dst = some d → d ∈ D := fun i o d ho hd => by
    rw [← hD, List.mem_filterMap]
    exact ⟨o, List.mem_of_getElem? (by simpa using ho), hd⟩
  have key : ∀ (f : Nat) (listed : Array Bool) (a : Act) (w : World), listed.toList.count false = f → listed.size = n + 1 → listed.getD n true = false → InvR lo.toArray V D a0 w0.drew listed a w → wpAny P .any lo.toArray Q f listed a w := by
    intro f
    induction f with
    | zero =>
      intro listed a w hc hs hln inv
      exfalso
      have : false ∈ listed.toList := by
        rw [Array.getD_eq_getD_getElem?, Array.getElem?_eq_getElem (by omega)] at hln
        have h3 : listed[n]'(by omega) = false := by simpa using hln
        rw [← h3]; exact Array.mem_toList_iff.2 (Array.getElem_mem (by omega))
      have := List.count_pos_iff.2 this
      omega
    | succ f ih =>
      intro listed a w hc hs hln inv
      refine ⟨fun hr => absurd hr (ready_some (by simpa [hn] using hs) hdag' n hln), fun i hi => ?_⟩
      obtain ⟨hiu, o, ho, hdeps⟩ := mem_ready.1 hi
      have hil : i < listed.size := by
        rw [Array.getD_eq_getD_getElem?] at hiu
        rcases Nat.lt_or_ge i listed.size with h1 | h1
        · exact h1
        · rw [Array.getElem?_eq_none h1] at hiu; simp at hiu
      have hcnt := falses_set listed i hiu
      by_cases hin : i = n
      · subst hin
        have hol : lo[i]? = some o := by simpa using ho
        have hall : ∀ j, j < i → listed.getD j false = true := fun j hj => by
          rw [hol] at hlast
          simp only [Option.map_some, Option.some.injEq, List.all_eq_true, List.mem_range] at hlast
          have := hlast j hj
          rw [Array.any_eq_true'] at this
          obtain ⟨e, he, hb⟩ := this
          simp only [Bool.and_eq_true, beq_iff_eq] at hb
          rw [← hb.1]
          exact hdeps e he hb.2
        refine wpOp_mono (fun a' w' hQ => ?_) (hend a w ((Below.refl _ _).drew.trans inv.below) inv.size inv.defers inv.other (fun j oj d hj hoj hd => inv.has j oj d (by simpa using hoj) hd (hall j hj)))
        have h0 : (listed.setIfInBounds i true).toList.count false = 0 := by
          rw [List.count_eq_zero]
          intro hmem
          obtain ⟨j, hj, hje⟩ := List.mem_iff_getElem.1 hmem
          rw [Array.getElem_toList] at hje
          have hj' : j < listed.size := by simpa using hj
          by_cases hji : i = j
          · subst hji
            rw [Array.getElem_setIfInBounds_self] at hje
            simp at hje
          · rw [Array.getElem_setIfInBounds_ne hj' hji] at hje
            have := hall j (by omega)
            rw [Array.getD_eq_getD_getElem?, Array.getElem?_eq_getElem hj'] at this
            simp [hje] at this
        obtain rfl : f = 0 := by omega
        exact ⟨ready_none h0, hQ⟩
      · have hlt : i < n := by omega
        have hol : lo[i]? = some o := by simpa using ho
        refine wpOp_mono (fun a' w' hK => ?_) (hop i o hol hlt a w ⟨inv.below, inv.size, inv.defers, inv.other, fun e he hb oj d hoj hd => inv.has e.on oj d hoj hd (hdeps e he hb)⟩)
        obtain ⟨v, rfl, hbw, hv⟩ := hK
        refine ih _ _ _ (by omega) (by simpa using hs) (by rw [getD_set_ne' hin]; exact hln) ⟨inv.below.trans (hbw.mono inv.below.size), by rw [size_put]; exact inv.size, ?_, fun d hd => ?_, fun j oj d hoj hd hlj => ?_⟩
        · have : (a.put o.dst v).defers = a.defers := by cases o.dst <;> rfl
          rw [this]; exact inv.defers
        · cases hdo : o.dst with
          | none => exact inv.other d hd
          | some k =>
            rw [eval_put _ _ _ _ (by rw [inv.size]; exact hsz k (inD i o k ho hdo)), if_neg (fun h : d = k => hd (by rw [h]; exact inD i o k ho hdo))]
            exact inv.other d hd
        · by_cases hji : j = i
          · subst hji
            obtain rfl : oj = o := Option.some.inj (hoj.symm.trans ho)
            rw [hd, eval_put _ _ _ _ (by rw [inv.size]; exact hsz d (inD j oj d ho hd)), if_pos rfl]
            exact hv d hd
          · rw [getD_set_ne' (Ne.symm hji)] at hlj
            have h1 := hV _ _ _ _ (inv.has j oj d hoj hd hlj) hbw
            cases hdo : o.dst with
            | none => exact h1
            | some k =>
              have hkd : ¬ d = k := fun h => hji (dst_apart hDa hnd' hoj ho hd (by rw [h]; exact hdo))
              rw [eval_put _ _ _ _ (by rw [inv.size]; exact hsz k (inD i o k ho hdo)), if_neg hkd]
              exact h1
  have hrep : (Array.replicate lo.toArray.size false).toList.count false = lo.toArray.size := by simp
  refine key _ _ _ _ hrep (by simp [hn]) ?_ ⟨Below.refl _ _, rfl, rfl, fun _ _ => rfl, fun j o d _ _ hl => ?_⟩
  · rw [Array.getD_eq_getD_getElem?, Array.getElem?_eq_getElem (by simp [hn])]
    simp
  · exfalso
    rw [Array.getD_eq_getD_getElem?] at hl
    rcases Nat.lt_or_ge j (Array.replicate lo.toArray.size false).size with h1 | h1
    · rw [Array.getElem?_eq_getElem h1] at hl; simp at hl
    · rw [Array.getElem?_eq_none h1] at hl; simp at hl
/-! Steps of such a region. -/
theorem iv_val {ops : Array Oper} {Q : Exit → Act → World → Prop} {V : Nat → Value → World → Prop} {i : Nat} {o : Oper} {a : Act} {w : World} (hi : ops[i]? = some o) (hw : Region.wanted o (yielded ops a.tmps) = true) (v : Value)
    (hx : (execOp a.eval o).run Try.prog w = .ok (.value v) w) (hv : V i v w) : wpOp Try.prog ops Q i (fun a' w' => ∃ v, a' = a.put o.dst v ∧ Below w.heap.size w w' ∧ ∀ d, o.dst = some d → V i v w') a w :=
  wpOp_val hi hw v hx o.dst rfl ⟨v, rfl, Below.refl _ _, fun _ _ => hv⟩
theorem iv_not {ops : Array Oper} {Q : Exit → Act → World → Prop} {V : Nat → Value → World → Prop} {i : Nat} {o : Oper} {a : Act} {w : World} (hi : ops[i]? = some o) (hw : Region.wanted o (yielded ops a.tmps) = false) (hv : V i undef w) :
    wpOp Try.prog ops Q i (fun a' w' => ∃ v, a' = a.put o.dst v ∧ Below w.heap.size w w' ∧ ∀ d, o.dst = some d → V i v w') a w := by
  unfold Go.wpOp
  simp only [hi, hw]
  exact ⟨undef, rfl, Below.refl _ _, fun _ _ => hv⟩
theorem iv_call {ops : Array Oper} {Q : Exit → Act → World → Prop} {V : Nat → Value → World → Prop} {i : Nat} {o : Oper} {a : Act} {w : World} (hi : ops[i]? = some o) (hw : Region.wanted o (yielded ops a.tmps) = true) (f : FuncId) (vs : Array Value)
    (hf : (execOp a.eval o).run Try.prog w = .ok (.enter f vs) w) (h : Calls Try.prog f vs w fun e w' => ∃ v, e = .returned v ∧ Below w.heap.size w w' ∧ V i v w') : wpOp Try.prog ops Q i (fun a' w' => ∃ v, a' = a.put o.dst v ∧ Below w.heap.size w w' ∧ ∀ d, o.dst = some d → V i v w') a w :=
  wpOp_callQ hi hw f vs hf _ h o.dst rfl (fun v w' hD => by
    obtain ⟨u, hu, hb, hv⟩ := hD
    obtain rfl : v = u := by simpa using hu
    exact ⟨v, rfl, hb, fun _ _ => hv⟩) (fun ch w' hD => by obtain ⟨u, hu, _⟩ := hD; cases hu) (fun w' hD => by obtain ⟨u, hu, _⟩ := hD; cases hu)
theorem iv_list {ops : Array Oper} {Q : Exit → Act → World → Prop} {V : Nat → Value → World → Prop} {i : Nat} {o : Oper} {a : Act} {w : World} (hi : ops[i]? = some o)
    (h : wpList Try.prog ops (fun e a' w' => match e with | .normal => (∃ v, a' = a.put o.dst v ∧ Below w.heap.size w w' ∧ ∀ d, o.dst = some d → V i v w') | e => Q e a' w') [o] a w) : wpOp Try.prog ops Q i (fun a' w' => ∃ v, a' = a.put o.dst v ∧ Below w.heap.size w w' ∧ ∀ d, o.dst = some d → V i v w') a w :=
  wpOp_of_list hi h
theorem run_callOps {o : Oper} {f : Nat} {xs : Array Operand} {ts : Array TypeId} (ho : o.op = .call { callee := .value (.func f), args := xs, argTypes := ts }) (hf : ∀ vs W, (callFunc f vs).run Try.prog W = .ok (.enter f vs) W) (a : Act) (W : World) (vs : Array Value) (h : xs.map a.eval = vs) : (execOp a.eval o).run Try.prog W = .ok (.enter f vs) W := by
  unfold execOp
  have hef : a.eval (.func f) = .func (.func f) #[] #[] := rfl
  simp only [ho, resolve, hef, h]
  simp [go_sem, hf]
theorem run_pickOp {o : Oper} {x y z : Operand} (ho : o.op = .pick x y z) (a : Act) (W : World) (b : Bool) (hb : a.eval x = .bool b) (v : Value) (hv : (if b then a.eval y else a.eval z) = v) : (execOp a.eval o).run Try.prog W = .ok (.value v) W := by
  unfold execOp
  simp only [ho, hb, ← hv]
  cases b <;> simp [go_sem]
theorem iv_alloc {E : El} (H : E.Ok) {ops : Array Oper} {Q : Exit → Act → World → Prop} {V : Nat → Value → World → Prop} {i : Nat} {o : Oper} {a : Act} {w : World} (hi : ops[i]? = some o) (hw : Region.wanted o (yielded ops a.tmps) = true) (ho : o.op = .alloc E.elem)
    (hv : V i (.pointer (some ⟨w.heap.size, 0, none⟩)) (w.alloc (.cells E.zero E.elem))) : wpOp Try.prog ops Q i (fun a' w' => ∃ v, a' = a.put o.dst v ∧ Below w.heap.size w w' ∧ ∀ d, o.dst = some d → V i v w') a w := by
  obtain ⟨ie, h1, h2, _, _⟩ := H.info
  have hx : (execOp a.eval o).run Try.prog w = .ok (.value (.pointer (some ⟨w.heap.size, 0, none⟩))) (w.alloc (.cells E.zero E.elem)) := by
    unfold execOp
    simp only [ho]
    simp [go_sem, Instr.alloc, zeroValue, typeInfo, h1, h2, Value.cells]
  exact wpOp_val hi hw _ hx o.dst rfl ⟨_, rfl, (Below.refl _ _).alloc (Nat.le_refl _) _, fun _ _ => hv⟩
/-- The frame behind such a region: the slots that it wrote, one by one. -/
def putsD (D : List Nat) (y : Nat → Value) (a : Act) : Act := D.foldl (fun b d => b.put (some d) (y d)) a
theorem putsD_size (y : Nat → Value) : ∀ (D : List Nat) (a : Act), (putsD D y a).tmps.size = a.tmps.size ∧ (putsD D y a).defers = a.defers
  | [], a => ⟨rfl, rfl⟩
  | d :: D, a => by
    have := putsD_size y D (a.put (some d) (y d))
    exact ⟨this.1.trans (size_put _ _ _), this.2.trans rfl⟩
theorem putsD_eval (y : Nat → Value) : ∀ (D : List Nat) (a : Act), (∀ d ∈ D, d < a.tmps.size) → ∀ k, (putsD D y a).eval (.tmp k) = if k ∈ D then y k else a.eval (.tmp k)
  | [], a, _, k => by simp [putsD]
  | d :: D, a, h, k => by
    show (putsD D y (a.put (some d) (y d))).eval (.tmp k) = _
    rw [putsD_eval y D _ (fun e he => by rw [size_put]; exact h e (by simp [he])) k]
    by_cases hk : k ∈ D
    · rw [if_pos hk, if_pos (by simp [hk])]
    · rw [if_neg hk, eval_put _ _ _ _ (h d (by simp))]
      by_cases hkd : k = d
      · rw [if_pos hkd, if_pos (by simp [hkd]), hkd]
      · rw [if_neg hkd, if_neg (by simp [hk, hkd])]
theorem act_ext {a b : Act} (hs : a.tmps.size = b.tmps.size) (hd : a.defers = b.defers) (he : ∀ k, a.eval (.tmp k) = b.eval (.tmp k)) : a = b := by
  obtain ⟨ta, da⟩ := a
  obtain ⟨tb, db⟩ := b
  simp only at hs hd
  subst hd
  congr 1
  refine Array.ext hs fun k h1 h2 => ?_
  have := he k
  simp only [Act.eval, Array.getD_eq_getD_getElem?] at this
  rw [Array.getElem?_eq_getElem h1, Array.getElem?_eq_getElem h2] at this
  simpa using this
theorem puts_form {D : List Nat} {a a0 : Act} (hs : a.tmps.size = a0.tmps.size) (hd : a.defers = a0.defers) (ho : ∀ d, d ∉ D → a.eval (.tmp d) = a0.eval (.tmp d)) (hD : ∀ d ∈ D, d < a0.tmps.size) : a = putsD D (fun d => a.eval (.tmp d)) a0 := by
  obtain ⟨h1, h2⟩ := putsD_size (fun d => a.eval (.tmp d)) D a0
  refine act_ext (hs.trans h1.symm) (hd.trans h2.symm) fun k => ?_
  rw [putsD_eval _ _ _ hD]
  split
  · rfl
  · rename_i h; exact ho k h
end Go.Proofs.Ytjmpakngbdemgaa
namespace Go.Proofs.Ytjmpakngbdemgaa
open Go Go.RowKit
set_option maxRecDepth 20000

/-- As InvR, with a word on the world that turns when operation m has come up. -/
structure InvM (ops : Array Oper) (V : Nat → Value → World → Prop) (D : List Nat) (I : Bool → World → Prop) (m : Nat) (a0 : Act) (listed : Array Bool) (a : Act) (w : World) : Prop where
  wld : I (listed.getD m false) w
  size : a.tmps.size = a0.tmps.size
  defers : a.defers = a0.defers
  other : ∀ d, d ∉ D → a.eval (.tmp d) = a0.eval (.tmp d)
  has : ∀ j o d, ops[j]? = some o → o.dst = some d → listed.getD j false = true → V j (a.eval (.tmp d)) w
/-- What an operation finds when it comes up. -/
structure AtM (ops : Array Oper) (V : Nat → Value → World → Prop) (D : List Nat) (I : Bool → World → Prop) (b : Bool) (a0 : Act) (o : Oper) (a : Act) (w : World) : Prop where
  wld : I b w
  size : a.tmps.size = a0.tmps.size
  defers : a.defers = a0.defers
  other : ∀ d, d ∉ D → a.eval (.tmp d) = a0.eval (.tmp d)
  has : ∀ e ∈ o.after, Region.binds .any e = true → ∀ oj d, ops[e.on]? = some oj → oj.dst = some d → V e.on (a.eval (.tmp d)) w
/-- A drawn region whose last operation waits for all others, one of which (m) may change what lies in memory, while all others make memory at most. -/
theorem region_mid {P : Program} {id : Nat} {Q : Exit → Act → World → Prop} {a0 : Act} {w0 : World} {lo : List Oper} (n m : Nat) (V : Nat → Value → World → Prop) (I : Bool → World → Prop) (D : List Nat) (hm : P.follows .mixedOrders = true) (hmn : m < n)
    (hn : lo.length = n + 1) (hD : (lo.filterMap (·.dst)) = D) (hnd : D.Nodup) (hsz : ∀ d ∈ D, d < a0.tmps.size) (hdag : (lo.zipIdx.all fun x => x.1.after.all fun e => decide (e.on < x.2)) = true)
    (hlast : (lo[n]?).map (fun o => (List.range n).all fun j => o.after.any fun e => e.on == j && Region.binds .any e) = some true)
    (hV : ∀ j v w w', V j v w → Below w.heap.size w w' → V j v w') (hI : ∀ b w w', I b w → Below w.heap.size w w' → I b w') (hI0 : I false w0.drew)
    (hop : ∀ i o, lo[i]? = some o → i < n → i ≠ m → ∀ b a w, AtM lo.toArray V D I b a0 o a w → wpOp P lo.toArray Q i (fun a' w' => ∃ v, a' = a.put o.dst v ∧ Below w.heap.size w w' ∧ ∀ d, o.dst = some d → V i v w') a w)
    (hmid : ∀ o, lo[m]? = some o → ∀ a w, AtM lo.toArray V D I false a0 o a w → wpOp P lo.toArray Q m (fun a' w' => ∃ v, a' = a.put o.dst v ∧ I true w' ∧ (∀ j u, j ≠ m → V j u w → V j u w') ∧ ∀ d, o.dst = some d → V m v w') a w)
    (hend : ∀ a w, I true w → a.tmps.size = a0.tmps.size → a.defers = a0.defers → (∀ d, d ∉ D → a.eval (.tmp d) = a0.eval (.tmp d)) → (∀ j o d, j < n → lo[j]? = some o → o.dst = some d → V j (a.eval (.tmp d)) w) → wpOp P lo.toArray Q n (fun a' w' => Q .normal a' w') a w) : (Code.region id lo.toArray true).wp P Q a0 w0 := by
  refine wp_region_any hm ?_
  have hdag' : ∀ (i : Nat) (o : Oper), lo.toArray[i]? = some o → ∀ e ∈ o.after, e.on < i := fun i o ho e he => by
    rw [List.all_eq_true] at hdag
    have ho' : lo[i]? = some o := by simpa using ho
    obtain ⟨hi, rfl⟩ := List.getElem?_eq_some_iff.1 ho'
    have := hdag (lo[i], i) (List.mem_zipIdx_iff_getElem?.2 (List.getElem?_eq_getElem hi))
    simp only [Array.all_eq_true_iff_forall_mem] at this
    simpa using this e he
  have hnd' := hnd
  have hDa : (lo.toArray.toList.filterMap (·.dst)) = D := by simpa using hD
  have inD : ∀ (i : Nat) (o : Oper) (d : Nat), lo.toArray[i]? = some o → o.dst = some d → d ∈ D := fun i o d ho hd => by
    rw [← hD, List.mem_filterMap]
    exact ⟨o, List.mem_of_getElem? (by simpa using ho), hd⟩
  have key : ∀ (f : Nat) (listed : Array Bool) (a : Act) (w : World), listed.toList.count false = f → listed.size = n + 1 → listed.getD n true = false → InvM lo.toArray V D I m a0 listed a w → wpAny P .any lo.toArray Q f listed a w := by
    intro f
    induction f with
    | zero =>
      intro listed a w hc hs hln inv
      exfalso
      have : false ∈ listed.toList := by
        rw [Array.getD_eq_getD_getElem?, Array.getElem?_eq_getElem (by omega)] at hln
        have h3 : listed[n]'(by omega) = false := by simpa using hln
        rw [← h3]; exact Array.mem_toList_iff.2 (Array.getElem_mem (by omega))
      have := List.count_pos_iff.2 this
      omega
    | succ f ih =>
      intro listed a w hc hs hln inv
      refine ⟨fun hr => absurd hr (ready_some (by simpa [hn] using hs) hdag' n hln), fun i hi => ?_⟩
      obtain ⟨hiu, o, ho, hdeps⟩ := mem_ready.1 hi
      have hil : i < listed.size := by
        rw [Array.getD_eq_getD_getElem?] at hiu
        rcases Nat.lt_or_ge i listed.size with h1 | h1
        · exact h1
        · rw [Array.getElem?_eq_none h1] at hiu; simp at hiu
      have hcnt := falses_set listed i hiu
      by_cases hin : i = n
      · subst hin
        have hol : lo[i]? = some o := by simpa using ho
        have hall : ∀ j, j < i → listed.getD j false = true := fun j hj => by
          rw [hol] at hlast
          simp only [Option.map_some, Option.some.injEq, List.all_eq_true, List.mem_range] at hlast
          have := hlast j hj
          rw [Array.any_eq_true'] at this
          obtain ⟨e, he, hb⟩ := this
          simp only [Bool.and_eq_true, beq_iff_eq] at hb
          rw [← hb.1]
          exact hdeps e he hb.2
        refine wpOp_mono (fun a' w' hQ => ?_) (hend a w (by have := inv.wld; rwa [hall m hmn] at this) inv.size inv.defers inv.other (fun j oj d hj hoj hd => inv.has j oj d (by simpa using hoj) hd (hall j hj)))
        have h0 : (listed.setIfInBounds i true).toList.count false = 0 := by
          rw [List.count_eq_zero]
          intro hmem
          obtain ⟨j, hj, hje⟩ := List.mem_iff_getElem.1 hmem
          rw [Array.getElem_toList] at hje
          have hj' : j < listed.size := by simpa using hj
          by_cases hji : i = j
          · subst hji
            rw [Array.getElem_setIfInBounds_self] at hje
            simp at hje
          · rw [Array.getElem_setIfInBounds_ne hj' hji] at hje
            have := hall j (by omega)
            rw [Array.getD_eq_getD_getElem?, Array.getElem?_eq_getElem hj'] at this
            simp [hje] at this
        obtain rfl : f = 0 := by omega
        exact ⟨ready_none h0, hQ⟩
      · have hlt : i < n := by omega
        have hol : lo[i]? = some o := by simpa using ho
        by_cases him : i = m
        · subst him
          have hno : listed.getD i false = false := getD_tf hiu
          refine wpOp_mono (fun a' w' hK => ?_) (hmid o hol a w ⟨by have := inv.wld; rwa [hno] at this, inv.size, inv.defers, inv.other, fun e he hb oj d hoj hd => inv.has e.on oj d hoj hd (hdeps e he hb)⟩)
          obtain ⟨v, rfl, hIw, hst, hv⟩ := hK
          have hset : (listed.setIfInBounds i true).getD i false = true := by
            rw [Array.getD_eq_getD_getElem?, Array.getElem?_setIfInBounds_self_of_lt hil]; rfl
          refine ih _ _ _ (by omega) (by simpa using hs) (by rw [getD_set_ne' hin]; exact hln) ⟨by rw [hset]; exact hIw, by rw [size_put]; exact inv.size, ?_, fun d hd => ?_, fun j oj d hoj hd hlj => ?_⟩
          · have : (a.put o.dst v).defers = a.defers := by cases o.dst <;> rfl
            rw [this]; exact inv.defers
          · cases hdo : o.dst with
            | none => exact inv.other d hd
            | some k =>
              rw [eval_put _ _ _ _ (by rw [inv.size]; exact hsz k (inD i o k ho hdo)), if_neg (fun h : d = k => hd (by rw [h]; exact inD i o k ho hdo))]
              exact inv.other d hd
          · by_cases hji : j = i
            · subst hji
              obtain rfl : oj = o := Option.some.inj (hoj.symm.trans ho)
              rw [hd, eval_put _ _ _ _ (by rw [inv.size]; exact hsz d (inD j oj d ho hd)), if_pos rfl]
              exact hv d hd
            · rw [getD_set_ne' (Ne.symm hji)] at hlj
              have h1 := hst _ _ hji (inv.has j oj d hoj hd hlj)
              cases hdo : o.dst with
              | none => exact h1
              | some k =>
                have hkd : ¬ d = k := fun h => hji (dst_apart hDa hnd' hoj ho hd (by rw [h]; exact hdo))
                rw [eval_put _ _ _ _ (by rw [inv.size]; exact hsz k (inD i o k ho hdo)), if_neg hkd]
                exact h1
        · refine wpOp_mono (fun a' w' hK => ?_) (hop i o hol hlt him (listed.getD m false) a w ⟨inv.wld, inv.size, inv.defers, inv.other, fun e he hb oj d hoj hd => inv.has e.on oj d hoj hd (hdeps e he hb)⟩)
          obtain ⟨v, rfl, hbw, hv⟩ := hK
          refine ih _ _ _ (by omega) (by simpa using hs) (by rw [getD_set_ne' hin]; exact hln) ⟨by rw [getD_set_ne' him]; exact hI _ _ _ inv.wld hbw, by rw [size_put]; exact inv.size, ?_, fun d hd => ?_, fun j oj d hoj hd hlj => ?_⟩
          · have : (a.put o.dst v).defers = a.defers := by cases o.dst <;> rfl
            rw [this]; exact inv.defers
          · cases hdo : o.dst with
            | none => exact inv.other d hd
            | some k =>
              rw [eval_put _ _ _ _ (by rw [inv.size]; exact hsz k (inD i o k ho hdo)), if_neg (fun h : d = k => hd (by rw [h]; exact inD i o k ho hdo))]
              exact inv.other d hd
          · by_cases hji : j = i
            · subst hji
              obtain rfl : oj = o := Option.some.inj (hoj.symm.trans ho)
              rw [hd, eval_put _ _ _ _ (by rw [inv.size]; exact hsz d (inD j oj d ho hd)), if_pos rfl]
              exact hv d hd
            · rw [getD_set_ne' (Ne.symm hji)] at hlj
              have h1 := (fun h => hV _ _ _ _ h hbw) (inv.has j oj d hoj hd hlj)
              cases hdo : o.dst with
              | none => exact h1
              | some k =>
                have hkd : ¬ d = k := fun h => hji (dst_apart hDa hnd' hoj ho hd (by rw [h]; exact hdo))
                rw [eval_put _ _ _ _ (by rw [inv.size]; exact hsz k (inD i o k ho hdo)), if_neg hkd]
                exact h1
  have hrep : (Array.replicate lo.toArray.size false).toList.count false = lo.toArray.size := by simp
  refine key _ _ _ _ hrep (by simp [hn]) ?_ ⟨?_, rfl, rfl, fun _ _ => rfl, fun j o d _ _ hl => ?_⟩
  · rw [Array.getD_eq_getD_getElem?, Array.getElem?_eq_getElem (by simp [hn])]
    simp
  · rw [Array.getD_eq_getD_getElem?, Array.getElem?_eq_getElem (by simp [hn]; omega)]
    simpa using hI0
  · exfalso
    rw [Array.getD_eq_getD_getElem?] at hl
    rcases Nat.lt_or_ge j (Array.replicate lo.toArray.size false).size with h1 | h1
    · rw [Array.getElem?_eq_getElem h1] at hl; simp at hl
    · rw [Array.getElem?_eq_none h1] at hl; simp at hl
end Go.Proofs.Ytjmpakngbdemgaa
