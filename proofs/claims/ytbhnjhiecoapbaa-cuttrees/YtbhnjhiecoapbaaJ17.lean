import Derived.Test.YtbhnjhiecoapbaaJ16
import Derived.Test.YtbhnjhiecoapbaaJ5
namespace Go.Proofs.Ytbhnjhiecoapbaa
open Go Go.RowKit
set_option maxRecDepth 20000

/-- What holds at each moment of a drawn region: all that has come up has a value as is told; all other slots are as they were. -/
structure InvR (ops : Array Oper) (V : Nat → Value → World → Prop) (D : List Nat) (a0 : Act) (w0 : World) (listed : Array Bool) (a : Act) (w : World) : Prop where
  below : Below w0.heap.size w0 w
  size : a.tmps.size = a0.tmps.size
  defers : a.defers = a0.defers
  other : ∀ d, d ∉ D → a.eval (.tmp d) = a0.eval (.tmp d)
  has : ∀ j o d, ops[j]? = some o → o.dst = some d → listed.getD j false = true → V j (a.eval (.tmp d)) w
/-- What an operation finds when it comes up. -/
structure AtOp (ops : Array Oper) (V : Nat → Value → World → Prop) (D : List Nat) (a0 : Act) (w0 : World) (o : Oper) (a : Act) (w : World) : Prop where
  below : Below w0.heap.size w0 w
  size : a.tmps.size = a0.tmps.size
  defers : a.defers = a0.defers
  other : ∀ d, d ∉ D → a.eval (.tmp d) = a0.eval (.tmp d)
  has : ∀ e ∈ o.after, Region.binds .any e = true → ∀ oj d, ops[e.on]? = some oj → oj.dst = some d → V e.on (a.eval (.tmp d)) w
theorem dst_apart {ops : Array Oper} {D : List Nat} (hD : (ops.toList.filterMap (·.dst)) = D) (hnd : D.Nodup) {i j : Nat} {oi oj : Oper} {d : Nat} (hi : ops[i]? = some oi) (hj : ops[j]? = some oj) (di : oi.dst = some d) (dj : oj.dst = some d) : i = j := by
  subst hD
  rw [List.nodup_iff_pairwise_ne, List.pairwise_filterMap] at hnd
  rw [← Array.getElem?_toList] at hi hj
  obtain ⟨hi1, hi2⟩ := List.getElem?_eq_some_iff.1 hi
  obtain ⟨hj1, hj2⟩ := List.getElem?_eq_some_iff.1 hj
  rw [List.pairwise_iff_getElem] at hnd
  rcases Nat.lt_trichotomy i j with h | h | h
  · exact absurd rfl (hnd i j hi1 hj1 h d (by rw [hi2]; exact di) d (by rw [hj2]; exact dj))
  · exact h
  · exact absurd rfl (hnd j i hj1 hi1 h d (by rw [hj2]; exact dj) d (by rw [hi2]; exact di))
theorem falses_set (l : Array Bool) (i : Nat) (h : l.getD i true = false) : (l.setIfInBounds i true).toList.count false + 1 = l.toList.count false := by
  have hi : i < l.size := by
    rw [Array.getD_eq_getD_getElem?] at h
    rcases Nat.lt_or_ge i l.size with h1 | h1
    · exact h1
    · rw [Array.getElem?_eq_none h1] at h; simp at h
  have hv : l[i] = false := by
    rw [Array.getD_eq_getD_getElem?, Array.getElem?_eq_getElem hi] at h
    simpa using h
  rw [Array.toList_setIfInBounds]
  have hi' : i < l.toList.length := by simpa using hi
  have e : l.toList = l.toList.take i ++ false :: l.toList.drop (i + 1) := by
    have := List.drop_eq_getElem_cons hi'
    rw [show l.toList[i] = false by simpa using hv] at this
    rw [← this, List.take_append_drop]
  rw [List.set_eq_take_append_cons_drop, if_pos hi', e]
  have e2 : (l.toList.take i ++ false :: l.toList.drop (i + 1)).take i = l.toList.take i := by rw [← e]
  have e3 : (l.toList.take i ++ false :: l.toList.drop (i + 1)).drop (i + 1) = l.toList.drop (i + 1) := by rw [← e]
  rw [e2, e3, List.count_append, List.count_append, List.count_cons, List.count_cons]
  simp
  omega
theorem ready_none {md : Region.Mode} {ops : Array Oper} {l : Array Bool} (h : l.toList.count false = 0) : Region.ready md ops l = [] := by
  rw [List.eq_nil_iff_forall_not_mem]
  intro j hj
  have h1 := (mem_ready.1 hj).1
  rw [Array.getD_eq_getD_getElem?] at h1
  rcases Nat.lt_or_ge j l.size with h2 | h2
  · rw [Array.getElem?_eq_getElem h2] at h1
    have h3 : l[j] = false := by simpa using h1
    have : false ∈ l.toList := by rw [← h3]; exact Array.mem_toList_iff.2 (Array.getElem_mem h2)
    have := List.count_pos_iff.2 this
    omega
  · rw [Array.getElem?_eq_none h2] at h1; simp at h1
theorem getD_tf {l : Array Bool} {j : Nat} (h : l.getD j true = false) : l.getD j false = false := by
  rw [Array.getD_eq_getD_getElem?] at h ⊢
  rcases Nat.lt_or_ge j l.size with h2 | h2
  · rw [Array.getElem?_eq_getElem h2] at h ⊢; simpa using h
  · rw [Array.getElem?_eq_none h2]; rfl
theorem getD_set_ne' {l : Array Bool} {i j : Nat} (h : i ≠ j) (b c : Bool) : (l.setIfInBounds i b).getD j c = l.getD j c := by
  rw [Array.getD_eq_getD_getElem?, Array.getD_eq_getD_getElem?, Array.getElem?_setIfInBounds_ne h]
theorem ready_some {ops : Array Oper} {l : Array Bool} (hs : l.size = ops.size) (hdag : ∀ (i : Nat) (o : Oper), ops[i]? = some o → ∀ e ∈ o.after, e.on < i) : ∀ j, l.getD j true = false → Region.ready .any ops l ≠ [] := by
  intro j
  induction j using Nat.strongRecOn with
  | ind j ih =>
    intro hj hr
    have hjl : j < l.size := by
      rw [Array.getD_eq_getD_getElem?] at hj
      rcases Nat.lt_or_ge j l.size with h1 | h1
      · exact h1
      · rw [Array.getElem?_eq_none h1] at hj; simp at hj
    have ho : ops[j]? = some (ops[j]'(by omega)) := Array.getElem?_eq_getElem (by omega)
    by_cases hall : ∀ e ∈ (ops[j]'(by omega)).after, Region.binds .any e = true → l.getD e.on false = true
    · have : j ∈ Region.ready .any ops l := mem_ready.2 ⟨hj, _, ho, hall⟩
      rw [hr] at this
      simp at this
    · simp only [Classical.not_forall] at hall
      obtain ⟨e, he, hb, hl⟩ := hall
      have hlt := hdag j _ ho e he
      refine ih e.on hlt ?_ hr
      rw [Array.getD_eq_getD_getElem?, Array.getElem?_eq_getElem (by omega)] at hl ⊢
      simpa using hl
/-- A drawn region whose last operation waits for all others, and whose others make memory at most: in whatever order they come up, each finds what it waits for. -/
theorem region_inv {P : Program} {id : Nat} {Q : Exit → Act → World → Prop} {a0 : Act} {w0 : World} {lo : List Oper} (n : Nat) (V : Nat → Value → World → Prop) (D : List Nat) (hm : P.follows .mixedOrders = true)
    (hn : lo.length = n + 1) (hD : (lo.filterMap (·.dst)) = D) (hnd : D.Nodup) (hsz : ∀ d ∈ D, d < a0.tmps.size) (hdag : (lo.zipIdx.all fun x => x.1.after.all fun e => decide (e.on < x.2)) = true)
    (hlast : (lo[n]?).map (fun o => (List.range n).all fun j => o.after.any fun e => e.on == j && Region.binds .any e) = some true)
    (hV : ∀ j v w w', V j v w → Below w.heap.size w w' → V j v w')
    (hop : ∀ i o, lo[i]? = some o → i < n → ∀ a w, AtOp lo.toArray V D a0 w0.drew o a w → wpOp P lo.toArray Q i (fun a' w' => ∃ v, a' = a.put o.dst v ∧ Below w.heap.size w w' ∧ ∀ d, o.dst = some d → V i v w') a w)
    (hend : ∀ a w, Below w0.heap.size w0 w → a.tmps.size = a0.tmps.size → a.defers = a0.defers → (∀ d, d ∉ D → a.eval (.tmp d) = a0.eval (.tmp d)) → (∀ j o d, j < n → lo[j]? = some o → o.dst = some d → V j (a.eval (.tmp d)) w) → wpOp P lo.toArray Q n (fun a' w' => Q .normal a' w') a w) : (Code.region id lo.toArray true).wp P Q a0 w0 := by
  refine wp_region_any hm ?_
  have hdag' : ∀ (i : Nat) (o : Oper), lo.toArray[i]? = some o → ∀ e ∈ o.after, e.on < i := fun i o ho e he => by
    rw [List.all_eq_true] at hdag
    have ho' : lo[i]? = some o := by simpa using ho
    obtain ⟨hi, rfl⟩ := List.getElem?_eq_some_iff.1 ho'
    have := hdag (lo[i], i) (List.mem_zipIdx_iff_getElem?.2 (List.getElem?_eq_getElem hi))
    simp only [Array.all_eq_true_iff_forall_mem] at this
    simpa using this e he
  have hnd' := hnd
  have hDa : (lo.toArray.toList.filterMap (·.dst)) = D := by simpa using hD
  have inD : ∀ (i : Nat) (o : Oper) (d : Nat), lo.toArray[i]? = some o → o.dst = some d → d ∈ D := fun i o d ho hd => by
    rw [← hD, List.mem_filterMap]
    exact ⟨o, List.mem_of_getElem? (by simpa using ho), hd⟩
  have key : ∀ (f : Nat) (listed : Array Bool) (a : Act) (w : World), listed.toList.count false = f → listed.size = n + 1 → listed.getD n true = false → InvR lo.toArray V D a0 w0.drew listed a w → wpAny P .any lo.toArray Q f listed a w := by
    intro f
    induction f with
    | zero =>
      intro listed a w hc hs hln inv
      exfalso
      have : false ∈ listed.toList := by
        rw [Array.getD_eq_getD_getElem?, Array.getElem?_eq_getElem (by omega)] at hln
        have h3 : listed[n]'(by omega) = false := by simpa using hln
        rw [← h3]; exact Array.mem_toList_iff.2 (Array.getElem_mem (by omega))
      have := List.count_pos_iff.2 this
      omega
    | succ f ih =>
      intro listed a w hc hs hln inv
      refine ⟨fun hr => absurd hr (ready_some (by simpa [hn] using hs) hdag' n hln), fun i hi => ?_⟩
      obtain ⟨hiu, o, ho, hdeps⟩ := mem_ready.1 hi
      have hil : i < listed.size := by
        rw [Array.getD_eq_getD_getElem?] at hiu
        rcases Nat.lt_or_ge i listed.size with h1 | h1
        · exact h1
        · rw [Array.getElem?_eq_none h1] at hiu; simp at hiu
      have hcnt := falses_set listed i hiu
      by_cases hin : i = n
      · subst hin
        have hol : lo[i]? = some o := by simpa using ho
        have hall : ∀ j, j < i → listed.getD j false = true := fun j hj => by
          rw [hol] at hlast
          simp only [Option.map_some, Option.some.injEq, List.all_eq_true, List.mem_range] at hlast
          have := hlast j hj
          rw [Array.any_eq_true'] at this
          obtain ⟨e, he, hb⟩ := this
          simp only [Bool.and_eq_true, beq_iff_eq] at hb
          rw [← hb.1]
          exact hdeps e he hb.2
        refine wpOp_mono (fun a' w' hQ => ?_) (hend a w ((Below.refl _ _).drew.trans inv.below) inv.size inv.defers inv.other (fun j oj d hj hoj hd => inv.has j oj d (by simpa using hoj) hd (hall j hj)))
        have h0 : (listed.setIfInBounds i true).toList.count false = 0 := by
          rw [List.count_eq_zero]
          intro hmem
          obtain ⟨j, hj, hje⟩ := List.mem_iff_getElem.1 hmem
          rw [Array.getElem_toList] at hje
          have hj' : j < listed.size := by simpa using hj
          by_cases hji : i = j
          · subst hji
            rw [Array.getElem_setIfInBounds_self] at hje
            simp at hje
          · rw [Array.getElem_setIfInBounds_ne hj' hji] at hje
            have := hall j (by omega)
            rw [Array.getD_eq_getD_getElem?, Array.getElem?_eq_getElem hj'] at this
            simp [hje] at this
        obtain rfl : f = 0 := by omega
        exact ⟨ready_none h0, hQ⟩
      · have hlt : i < n := by omega
        have hol : lo[i]? = some o := by simpa using ho
        refine wpOp_mono (fun a' w' hK => ?_) (hop i o hol hlt a w ⟨inv.below, inv.size, inv.defers, inv.other, fun e he hb oj d hoj hd => inv.has e.on oj d hoj hd (hdeps e he hb)⟩)
        obtain ⟨v, rfl, hbw, hv⟩ := hK
        refine ih _ _ _ (by omega) (by simpa using hs) (by rw [getD_set_ne' hin]; exact hln) ⟨inv.below.trans (hbw.mono inv.below.size), by rw [size_put]; exact inv.size, ?_, fun d hd => ?_, fun j oj d hoj hd hlj => ?_⟩
        · have : (a.put o.dst v).defers = a.defers := by cases o.dst <;> rfl
          rw [this]; exact inv.defers
        · cases hdo : o.dst with
          | none => exact inv.other d hd
          | some k =>
            rw [eval_put _ _ _ _ (by rw [inv.size]; exact hsz k (inD i o k ho hdo)), if_neg (fun h : d = k => hd (by rw [h]; exact inD i o k ho hdo))]
            exact inv.other d hd
        · by_cases hji : j = i
          · subst hji
            obtain rfl : oj = o := Option.some.inj (hoj.symm.trans ho)
            rw [hd, eval_put _ _ _ _ (by rw [inv.size]; exact hsz d (inD j oj d ho hd)), if_pos rfl]
            exact hv d hd
          · rw [getD_set_ne' (Ne.symm hji)] at hlj
            have h1 := hV _ _ _ _ (inv.has j oj d hoj hd hlj) hbw
            cases hdo : o.dst with
            | none => exact h1
            | some k =>
              have hkd : ¬ d = k := fun h => hji (dst_apart hDa hnd' hoj ho hd (by rw [h]; exact hdo))
              rw [eval_put _ _ _ _ (by rw [inv.size]; exact hsz k (inD i o k ho hdo)), if_neg hkd]
              exact h1
  have hrep : (Array.replicate lo.toArray.size false).toList.count false = lo.toArray.size := by simp
  refine key _ _ _ _ hrep (by simp [hn]) ?_ ⟨Below.refl _ _, rfl, rfl, fun _ _ => rfl, fun j o d _ _ hl => ?_⟩
  · rw [Array.getD_eq_getD_getElem?, Array.getElem?_eq_getElem (by simp [hn])]
    simp
  · exfalso
    rw [Array.getD_eq_getD_getElem?] at hl
    rcases Nat.lt_or_ge j (Array.replicate lo.toArray.size false).size with h1 | h1
    · rw [Array.getElem?_eq_getElem h1] at hl; simp at hl
    · rw [Array.getElem?_eq_none h1] at hl; simp at hl
/-! Steps of such a region. -/
theorem iv_val {ops : Array Oper} {Q : Exit → Act → World → Prop} {V : Nat → Value → World → Prop} {i : Nat} {o : Oper} {a : Act} {w : World} (hi : ops[i]? = some o) (hw : Region.wanted o (yielded ops a.tmps) = true) (v : Value)
    (hx : (execOp a.eval o).run Try.prog w = .ok (.value v) w) (hv : V i v w) : wpOp Try.prog ops Q i (fun a' w' => ∃ v, a' = a.put o.dst v ∧ Below w.heap.size w w' ∧ ∀ d, o.dst = some d → V i v w') a w :=
  wpOp_val hi hw v hx o.dst rfl ⟨v, rfl, Below.refl _ _, fun _ _ => hv⟩
theorem iv_not {ops : Array Oper} {Q : Exit → Act → World → Prop} {V : Nat → Value → World → Prop} {i : Nat} {o : Oper} {a : Act} {w : World} (hi : ops[i]? = some o) (hw : Region.wanted o (yielded ops a.tmps) = false) (hv : V i undef w) :
    wpOp Try.prog ops Q i (fun a' w' => ∃ v, a' = a.put o.dst v ∧ Below w.heap.size w w' ∧ ∀ d, o.dst = some d → V i v w') a w := by
  unfold Go.wpOp
  simp only [hi, hw]
  exact ⟨undef, rfl, Below.refl _ _, fun _ _ => hv⟩
theorem iv_call {ops : Array Oper} {Q : Exit → Act → World → Prop} {V : Nat → Value → World → Prop} {i : Nat} {o : Oper} {a : Act} {w : World} (hi : ops[i]? = some o) (hw : Region.wanted o (yielded ops a.tmps) = true) (f : FuncId) (vs : Array Value)
    (hf : (execOp a.eval o).run Try.prog w = .ok (.enter f vs) w) (h : Calls Try.prog f vs w fun e w' => ∃ v, e = .returned v ∧ Below w.heap.size w w' ∧ V i v w') : wpOp Try.prog ops Q i (fun a' w' => ∃ v, a' = a.put o.dst v ∧ Below w.heap.size w w' ∧ ∀ d, o.dst = some d → V i v w') a w :=
  wpOp_callQ hi hw f vs hf _ h o.dst rfl (fun v w' hD => by
    obtain ⟨u, hu, hb, hv⟩ := hD
    obtain rfl : v = u := by simpa using hu
    exact ⟨v, rfl, hb, fun _ _ => hv⟩) (fun ch w' hD => by obtain ⟨u, hu, _⟩ := hD; cases hu) (fun w' hD => by obtain ⟨u, hu, _⟩ := hD; cases hu)
theorem iv_list {ops : Array Oper} {Q : Exit → Act → World → Prop} {V : Nat → Value → World → Prop} {i : Nat} {o : Oper} {a : Act} {w : World} (hi : ops[i]? = some o)
    (h : wpList Try.prog ops (fun e a' w' => match e with | .normal => (∃ v, a' = a.put o.dst v ∧ Below w.heap.size w w' ∧ ∀ d, o.dst = some d → V i v w') | e => Q e a' w') [o] a w) : wpOp Try.prog ops Q i (fun a' w' => ∃ v, a' = a.put o.dst v ∧ Below w.heap.size w w' ∧ ∀ d, o.dst = some d → V i v w') a w :=
  wpOp_of_list hi h
theorem run_callOps {o : Oper} {f : Nat} {xs : Array Operand} {ts : Array TypeId} (ho : o.op = .call { callee := .value (.func f), args := xs, argTypes := ts }) (hf : ∀ vs W, (callFunc f vs).run Try.prog W = .ok (.enter f vs) W) (a : Act) (W : World) (vs : Array Value) (h : xs.map a.eval = vs) : (execOp a.eval o).run Try.prog W = .ok (.enter f vs) W := by
  unfold execOp
  have hef : a.eval (.func f) = .func (.func f) #[] #[] := rfl
  simp only [ho, resolve, hef, h]
  simp [go_sem, hf]
theorem run_pickOp {o : Oper} {x y z : Operand} (ho : o.op = .pick x y z) (a : Act) (W : World) (b : Bool) (hb : a.eval x = .bool b) (v : Value) (hv : (if b then a.eval y else a.eval z) = v) : (execOp a.eval o).run Try.prog W = .ok (.value v) W := by
  unfold execOp
  simp only [ho, hb, ← hv]
  cases b <;> simp [go_sem]
theorem iv_alloc {E : El} (H : E.Ok) {ops : Array Oper} {Q : Exit → Act → World → Prop} {V : Nat → Value → World → Prop} {i : Nat} {o : Oper} {a : Act} {w : World} (hi : ops[i]? = some o) (hw : Region.wanted o (yielded ops a.tmps) = true) (ho : o.op = .alloc E.elem)
    (hv : V i (.pointer (some ⟨w.heap.size, 0, none⟩)) (w.alloc (.cells E.zero E.elem))) : wpOp Try.prog ops Q i (fun a' w' => ∃ v, a' = a.put o.dst v ∧ Below w.heap.size w w' ∧ ∀ d, o.dst = some d → V i v w') a w := by
  obtain ⟨ie, h1, h2, _, _⟩ := H.info
  have hx : (execOp a.eval o).run Try.prog w = .ok (.value (.pointer (some ⟨w.heap.size, 0, none⟩))) (w.alloc (.cells E.zero E.elem)) := by
    unfold execOp
    simp only [ho]
    simp [go_sem, Instr.alloc, zeroValue, typeInfo, h1, h2, Value.cells]
  exact wpOp_val hi hw _ hx o.dst rfl ⟨_, rfl, (Below.refl _ _).alloc (Nat.le_refl _) _, fun _ _ => hv⟩
/-- The frame behind such a region: the slots that it wrote, one by one. -/
def putsD (D : List Nat) (y : Nat → Value) (a : Act) : Act := D.foldl (fun b d => b.put (some d) (y d)) a
theorem putsD_size (y : Nat → Value) : ∀ (D : List Nat) (a : Act), (putsD D y a).tmps.size = a.tmps.size ∧ (putsD D y a).defers = a.defers
  | [], a => ⟨rfl, rfl⟩
  | d :: D, a => by
    have := putsD_size y D (a.put (some d) (y d))
    exact ⟨this.1.trans (size_put _ _ _), this.2.trans rfl⟩
theorem putsD_eval (y : Nat → Value) : ∀ (D : List Nat) (a : Act), (∀ d ∈ D, d < a.tmps.size) → ∀ k, (putsD D y a).eval (.tmp k) = if k ∈ D then y k else a.eval (.tmp k)
  | [], a, _, k => by simp [putsD]
  | d :: D, a, h, k => by
    show (putsD D y (a.put (some d) (y d))).eval (.tmp k) = _
    rw [putsD_eval y D _ (fun e he => by rw [size_put]; exact h e (by simp [he])) k]
    by_cases hk : k ∈ D
    · rw [if_pos hk, if_pos (by simp [hk])]
    · rw [if_neg hk, eval_put _ _ _ _ (h d (by simp))]
      by_cases hkd : k = d
      · rw [if_pos hkd, if_pos (by simp [hkd]), hkd]
      · rw [if_neg hkd, if_neg (by simp [hk, hkd])]
theorem act_ext {a b : Act} (hs : a.tmps.size = b.tmps.size) (hd : a.defers = b.defers) (he : ∀ k, a.eval (.tmp k) = b.eval (.tmp k)) : a = b := by
  obtain ⟨ta, da⟩ := a
  obtain ⟨tb, db⟩ := b
  simp only at hs hd
  subst hd
  congr 1
  refine Array.ext hs fun k h1 h2 => ?_
  have := he k
  simp only [Act.eval, Array.getD_eq_getD_getElem?] at this
  rw [Array.getElem?_eq_getElem h1, Array.getElem?_eq_getElem h2] at this
  simpa using this
theorem puts_form {D : List Nat} {a a0 : Act} (hs : a.tmps.size = a0.tmps.size) (hd : a.defers = a0.defers) (ho : ∀ d, d ∉ D → a.eval (.tmp d) = a0.eval (.tmp d)) (hD : ∀ d ∈ D, d < a0.tmps.size) : a = putsD D (fun d => a.eval (.tmp d)) a0 := by
  obtain ⟨h1, h2⟩ := putsD_size (fun d => a.eval (.tmp d)) D a0
  refine act_ext (hs.trans h1.symm) (hd.trans h2.symm) fun k => ?_
  rw [putsD_eval _ _ _ hD]
  split
  · rfl
  · rename_i h; exact ho k h
end Go.Proofs.Ytbhnjhiecoapbaa
namespace Go.Proofs.Ytbhnjhiecoapbaa
open Go Go.Lib Go.RowKit Ieee
set_option maxRecDepth 20000

/-! Leaves, in memory; cut.leaf. -/
structure LeafM where
  cube : List Int × List Int
  one : Int
  two : Int
  rules : List RuleM
def okL (x : LeafM) : Prop := Byt x.cube.1 ∧ Byt x.cube.2 ∧ ∀ r ∈ x.rules, okR8 r
def leafV (x : LeafM) (u : Value) : Array Value := cv x.cube.1 x.cube.2 ++ #[.int .i64 x.one, .int .i64 x.two, u]
def LeafE : El := ⟨45, 41, 29, 72, zeroC ++ #[.int .i64 0, .int .i64 0, .slice none 0 0]⟩
theorem LeafOk : LeafE.Ok := ⟨Try.underlying41, ⟨_, Try.underlying45, rfl⟩, by kernel_rfl, by decide, by decide, by decide, by decide⟩
theorem leafV_size {x : LeafM} (h : okL x) (u : Value) : (leafV x u).size = 29 := by
  unfold leafV
  simp [cv_size _ _ h.1.1 h.2.1.1]
theorem leaf_fits {x : LeafM} (h : okL x) {u : Value} (hu : ∃ o n m, u = .slice o n m) : Fits LeafE (leafV x u) := by
  refine ⟨leafV_size h u, ?_⟩
  obtain ⟨o, n, m, rfl⟩ := hu
  unfold leafV
  rw [Array.all_append, cv_one]
  simp [Value.oneCell']
theorem leaf_at {x : LeafM} (h : okL x) (u : Value) : (∀ j, j < 26 → (leafV x u)[j]? = (cv x.cube.1 x.cube.2)[j]?) ∧ (leafV x u)[26]? = some (.int .i64 x.one) ∧ (leafV x u)[27]? = some (.int .i64 x.two) ∧ (leafV x u)[28]? = some u := by
  have hs := cv_size _ _ h.1.1 h.2.1.1
  unfold leafV
  refine ⟨fun j hj => ?_, ?_, ?_, ?_⟩
  · rw [Array.getElem?_append_left (by rw [hs]; exact hj)]
  all_goals
    rw [Array.getElem?_append_right (by simp [hs])]
    simp [hs]
set_option maxRecDepth 100000 in
theorem build_leaf (V M : List Int) (u : Value) (hV : V.length = 13) (hM : M.length = 13) (hu : ∃ o n m, u = .slice o n m) (T : List RuleM) (W : World) : (Instr.build 45 #[(0, .agg (cv V M)), (3, u)]).run Try.prog W = .ok (.agg (leafV ⟨(V, M), 0, 0, T⟩ u)) W := by
  obtain ⟨a0, a1, a2, a3, a4, a5, a6, a7, a8, a9, a10, a11, a12, rfl⟩ := list13 hV
  obtain ⟨b0, b1, b2, b3, b4, b5, b6, b7, b8, b9, b10, b11, b12, rfl⟩ := list13 hM
  obtain ⟨o, n, m, rfl⟩ := hu
  kernel_rfl
/-- A leaf's rules, in a row of one's own. -/
def LfR (B : Nat) (w : World) (x : LeafM) (u : Value) : Prop := okL x ∧ w.ownsRow B 30 28 u x.rules.length (gcells ruleV x.rules)
theorem LfR.below {B : Nat} : ∀ w w' x u, Below w.heap.size w w' → LfR B w x u → LfR B w' x u := fun _ _ _ _ hb h => ⟨h.1, gown_below h.2 hb⟩
theorem LfR.base {B B' : Nat} {w : World} {x : LeafM} {u : Value} (h : LfR B w x u) (hB : B' ≤ B) : LfR B' w x u := ⟨h.1, own_base h.2 hB⟩
theorem LfR.rules {B : Nat} {w : World} {x : LeafM} {u : Value} (h : LfR B w x u) : RulesAt w u x.rules := RulesAt.own h.1.2.2 h.2
theorem LfR.slice {B : Nat} {w : World} {x : LeafM} {u : Value} (h : LfR B w x u) : ∃ o m, u = .slice o x.rules.length m := by
  obtain ⟨o, cap, e, _, _⟩ := GSl.slice h.rules
  exact ⟨o, cap, e⟩
theorem retE12 {E : El} (H : E.Ok) {fn : Func} {R : Ending → World → Prop} {a : Act} {w : World} {p : Tmp} (hr : fn.results = #[.cell p E.elem]) (hd : a.defers = []) (g : Nat) (hp : a.tmps.getD p undef = .pointer (some ⟨g, 0, none⟩)) (cs : Array Value) (hcs : cs.size = E.size)
    (hg : w.heap[g]? = some (.cells cs E.elem (0, 0))) (h : R (.returned (.agg cs)) w) : bodyPost Try.prog fn R .ret a w := by
  refine bodyPost_ret (v := .agg cs) ?_ hd h
  rw [Array.getD_eq_getD_getElem?] at hp
  have hl := H.load w g 0 cs E.elem (0, 0) cs hcs hg (own_cells _ _)
  simp [results, hr, hp, asAddr, hl]
theorem run_build12 {o : Oper} {t : Nat} {ps : Array (Nat × Operand)} (ho : o.op = .build t ps) (a : Act) (W : World) (qs : Array (Nat × Value)) (hq : (ps.map fun (i, x) => (i, a.eval x)) = qs) (v : Value) (h : (Instr.build t qs).run Try.prog W = .ok v W) : (execOp a.eval o).run Try.prog W = .ok (.value v) W := by
  unfold execOp
  simp only [ho, Sem.run_bind, hq, h, Result.andThen_ok, Sem.run_pure]
theorem clip_ok {V M : List Int} {l : List RuleM} : ∀ r ∈ clipT V M l, okR8 r := fun r hr => by
  rcases trimO_sub _ _ _ _ hr with h | h
  · simp at h
  · exact meetL_ok r h
theorem clip_len (V M : List Int) (l : List RuleM) : (clipT V M l).length ≤ l.length := by
  have h1 := trimO_len withinR (meetL V M l) []
  have h2 := meetL_len V M l
  simp at h1
  exact Nat.le_trans h1 h2
def lf_ops : List Oper := [
  { dst := some 5, op := .load 26 (.tmp 3), type := 26, pos := "cut.go:108", after := #[], guard := none },
  { dst := some 6, op := .move (.tmp 0), type := 22, pos := "cut.go:108", after := #[], guard := none },
  { dst := some 7, op := .load 26 (.tmp 3), type := 26, pos := "cut.go:108", after := #[], guard := none },
  { dst := some 8, op := .call { callee := .value (.func 10), args := #[.tmp 6, .tmp 7], argTypes := #[22, 26] }, type := 22, pos := "cut.go:108", after := #[{ on := 1, ground := .data }, { on := 2, ground := .data }], guard := none },
  { dst := some 9, op := .build 45 #[(0, .tmp 5), (3, .tmp 8)], type := 45, pos := "cut.go:108", after := #[{ on := 0, ground := .data }, { on := 3, ground := .data }], guard := none },
  { dst := none, op := .store 45 (.tmp 4) (.tmp 9), type := 0, pos := "cut.go:108", after := #[{ on := 4, ground := .data }, { on := 3, ground := .chain }, { on := 0, ground := .phase }, { on := 1, ground := .phase }, { on := 2, ground := .phase }, { on := 3, ground := .phase }, { on := 4, ground := .phase }], guard := none }]
def lf_D : List Nat := [5, 6, 7, 8, 9]
def lf_V (B : Nat) (V M : List Int) (vl : Value) (x : LeafM) (i : Nat) (v : Value) (w : World) : Prop :=
  match i with
  | 0 => v = .agg (cv V M)
  | 1 => v = vl
  | 2 => v = .agg (cv V M)
  | 3 => LfR B w x v
  | 4 => ∃ u, v = .agg (leafV x u) ∧ LfR B w x u
  | _ => True
theorem lf_mono (B : Nat) (V M : List Int) (vl : Value) (x : LeafM) : ∀ j v w w', lf_V B V M vl x j v w → Below w.heap.size w w' → lf_V B V M vl x j v w' := by
  intro j v w w' h hb
  revert h
  unfold lf_V
  split <;> intro h <;> first
    | exact h
    | exact LfR.below _ _ _ _ hb h
    | (obtain ⟨u, h1, h2⟩ := h
       exact ⟨u, h1, LfR.below _ _ _ _ hb h2⟩)
set_option maxHeartbeats 4000000 in
theorem lf_region {id : Nat} {Q : Exit → Act → World → Prop} {a0 : Act} {w0 : World} (hs : 10 ≤ a0.tmps.size) (p q : Nat) (V M : List Int) (hV : Byt V) (hM : Byt M) (l : List RuleM) (hl0 : ∀ r ∈ l, okR8 r) (hn1 : l.length ≤ 100000) (vl : Value) (hl : RulesAt w0 vl l) (h0 : a0.eval (.tmp 0) = vl) (h3 : a0.eval (.tmp 3) = .pointer (some ⟨p, 0, none⟩)) (h4 : a0.eval (.tmp 4) = .pointer (some ⟨q, 0, none⟩))
    (hp : w0.heap[p]? = some (.cells (cv V M) 26 (0, 0))) (hq : w0.heap[q]? = some (.cells LeafE.zero LeafE.elem (0, 0)))
    (hK : ∀ y w' u, Below w0.heap.size w0 w' → LfR w0.heap.size w' ⟨(V, M), 0, 0, clipT V M l⟩ u → Q .normal (putsD lf_D y a0) (w'.setRow q (leafV ⟨(V, M), 0, 0, clipT V M l⟩ u))) : (Code.region id lf_ops.toArray true).wp Try.prog Q a0 w0 := by
  have hDs : ∀ d ∈ lf_D, d < a0.tmps.size := fun d hd => by
    have : d < 10 := by
      revert hd; unfold lf_D; intro hd
      simp only [List.mem_cons, List.not_mem_nil, or_false] at hd
      omega
    omega
  have hX : okL ⟨(V, M), 0, 0, clipT V M l⟩ := ⟨hV, hM, clip_ok⟩
  obtain ⟨x, hx⟩ : ∃ x : LeafM, x = ⟨(V, M), 0, 0, clipT V M l⟩ := ⟨_, rfl⟩
  have hxr : x.rules = clipT V M l := by rw [hx]
  rw [← hx] at hK hX
  refine region_inv 5 (lf_V w0.heap.size V M vl x) lf_D (by kernel_rfl) rfl (by kernel_rfl) (by decide) hDs (by kernel_rfl) (by kernel_rfl) (lf_mono w0.heap.size V M vl x) ?_ ?_
  · intro i o ho hi a w h
    have B : Below w0.heap.size w0 w := (Below.refl _ _).drew.trans h.below
    have e0 : a.eval (.tmp 0) = vl := (h.other 0 (by decide)).trans h0
    have e3 : a.eval (.tmp 3) = .pointer (some ⟨p, 0, none⟩) := (h.other 3 (by decide)).trans h3
    have bp : w.heap[p]? = some (.cells (cv V M) 26 (0, 0)) := (B.block p (Array.getElem?_eq_some_iff.1 hp).1).trans hp
    have ca : ∀ vs W, (callFunc 10 vs).run Try.prog W = .ok (.enter 10 vs) W := fun vs W => by have hf := Try.func10; simp [go_sem]
    rcases (show i = 0 ∨ i = 1 ∨ i = 2 ∨ i = 3 ∨ i = 4 by omega) with rfl | rfl | rfl | rfl | rfl
    · obtain rfl := Option.some.inj ho
      exact iv_val rfl rfl _ (run_loadC _ _ _ _ rfl p e3 V M bp hV.1 hM.1) rfl
    · obtain rfl := Option.some.inj ho
      exact iv_val rfl rfl vl (run_moveOp rfl _ _ _ e0) rfl
    · obtain rfl := Option.some.inj ho
      exact iv_val rfl rfl _ (run_loadC _ _ _ _ rfl p e3 V M bp hV.1 hM.1) rfl
    · obtain rfl := Option.some.inj ho
      have f1 : a.eval (.tmp 6) = vl := h.has ⟨1, .data⟩ (by simp) rfl _ 6 rfl rfl
      have f2 : a.eval (.tmp 7) = .agg (cv V M) := h.has ⟨2, .data⟩ (by simp) rfl _ 7 rfl rfl
      exact iv_call rfl rfl 10 #[vl, .agg (cv V M)] (run_callOps rfl ca _ _ _ (by simp [f1, f2])) ((clip_any l hl0 hn1 vl V M hV hM w (GSl.below hl B)).mono fun e w' h => by
        obtain ⟨⟨v, rfl, h1⟩, h2⟩ := h
        exact ⟨v, rfl, h2, hX, by rw [hxr]; exact own_base h1 B.size⟩)
    · obtain rfl := Option.some.inj ho
      have f1 : a.eval (.tmp 5) = .agg (cv V M) := h.has ⟨0, .data⟩ (by simp) rfl _ 5 rfl rfl
      have f2 : LfR w0.heap.size w x (a.eval (.tmp 8)) := h.has ⟨3, .data⟩ (by simp) rfl _ 8 rfl rfl
      obtain ⟨o', m', hu⟩ := f2.slice
      refine iv_val rfl rfl (.agg (leafV x (a.eval (.tmp 8)))) (run_build12 rfl _ _ #[(0, .agg (cv V M)), (3, a.eval (.tmp 8))] (by simp only [List.map_toArray, List.map_cons, List.map_nil, f1]) _ ?_) ⟨_, rfl, f2⟩
      rw [hx]
      exact build_leaf V M _ hV.1 hM.1 ⟨_, _, _, hu⟩ _ w
  · intro a w hb hsz hdf hot hh
    obtain ⟨u, f1, hu⟩ : ∃ u, a.eval (.tmp 9) = .agg (leafV x u) ∧ LfR w0.heap.size w x u := hh 4 _ 9 (by decide) rfl rfl
    have e4 : a.eval (.tmp 4) = .pointer (some ⟨q, 0, none⟩) := (hot 4 (by decide)).trans h4
    have bq : w.heap[q]? = some (.cells LeafE.zero LeafE.elem (0, 0)) := (hb.block q (Array.getElem?_eq_some_iff.1 hq).1).trans hq
    obtain ⟨o', m', hu'⟩ := hu.slice
    refine wpOp_of_list rfl ?_
    refine wl_storeE (E := LeafE) LeafOk rfl _ _ rfl q (leafV x u) (leaf_fits hX ⟨_, _, _, hu'⟩) e4 f1 _ bq rfl _ rfl ?_
    show Q .normal a _
    rw [puts_form hsz hdf hot hDs]
    exact hK _ _ u hb hu
set_option maxHeartbeats 4000000 in
theorem leaf_any (l : List RuleM) (hl0 : ∀ r ∈ l, okR8 r) (hn1 : l.length ≤ 100000) (vl : Value) (V M : List Int) (hV : Byt V) (hM : Byt M) (w : World) (hl : RulesAt w vl l) :
    Calls Try.prog 35 #[vl, .agg (cv V M)] w fun e w' => (∃ u, e = .returned (.agg (leafV ⟨(V, M), 0, 0, clipT V M l⟩ u)) ∧ LfR w.heap.size w' ⟨(V, M), 0, 0, clipT V M l⟩ u) ∧ Below w.heap.size w w' := by
  have hX : okL ⟨(V, M), 0, 0, clipT V M l⟩ := ⟨hV, hM, clip_ok⟩
  have g0 : Hid (((w.alloc (.cells (cv V M) 26)).alloc (.cells LeafE.zero LeafE.elem)).heap[w.heap.size]? = some (.cells (cv V M) 26 (0, 0))) := heap_past _ _ _ _ (heap_new _ _ _ rfl)
  have g1 : Hid (((w.alloc (.cells (cv V M) 26)).alloc (.cells LeafE.zero LeafE.elem)).heap[w.heap.size + 1]? = some (.cells LeafE.zero LeafE.elem (0, 0))) := heap_new _ _ _ (by simp)
  have B0 : Hid (Below w.heap.size w ((w.alloc (.cells (cv V M) 26)).alloc (.cells LeafE.zero LeafE.elem))) := ((Below.refl _ _).alloc (Nat.le_refl _) _).alloc (by simp) _
  have HL : Hid (RulesAt ((w.alloc (.cells (cv V M) 26)).alloc (.cells LeafE.zero LeafE.elem)) vl l) := GSl.below hl B0.out
  go_enter Try.func35, Try.ntmps35
  go_wp2_with fail
  refine lf_region (by simp) w.heap.size (w.heap.size + 1) V M hV hM l hl0 hn1 vl HL.out rfl rfl rfl g0.out g1.out ?_
  intro y w1 u hb1 hu
  have bq : w1.heap[w.heap.size + 1]? = some (.cells LeafE.zero LeafE.elem (0, 0)) := (hb1.block _ (Array.getElem?_eq_some_iff.1 g1.out).1).trans g1.out
  have k1 := setRow_heap _ _ _ (leafV ⟨(V, M), 0, 0, clipT V M l⟩ u) _ _ bq
  simp only [putsD, lf_D, List.foldl_cons, List.foldl_nil, Act.put, List.setIfInBounds_toArray, List.set_cons_succ, List.set_cons_zero]
  go_wp2_with fail
  refine retE12 LeafOk (p := 4) rfl rfl (w.heap.size + 1) rfl _ (leafV_size hX u) k1 ⟨⟨u, rfl, hX, ?_⟩, ?_⟩
  · refine own_setRow12 (own_base hu.2 (by simp; omega)) (fun j hj => ?_) _
    have := (World.ownsRow.lt hu.2 j hj).1
    simp at this
    omega
  · exact below_setRow (B0.out.trans (hb1.mono B0.out.size)) (by omega) _
end Go.Proofs.Ytbhnjhiecoapbaa
namespace Go.Proofs.Ytbhnjhiecoapbaa
open Go Go.Lib Go.RowKit Ieee
set_option maxRecDepth 20000

/-! cut.most. -/
/-- Leaves, wherever they lie. -/
abbrev LeavesAt (B : Nat) (w : World) (v : Value) (C : List LeafM) : Prop := NSl LeafE leafV (LfR B) w v C
/-- Leaves in a row of one's own. -/
abbrev LeavesOwn (B : Nat) (w : World) (v : Value) (C : List LeafM) : Prop := NOwn LeafE leafV (LfR B) w B v C
def mostT (bound : Int) : List LeafM → Nat
  | [] => 0
  | x :: l => if (x.rules.length : Int) < bound then max x.rules.length (mostT bound l) else mostT bound l
theorem most_app (bound : Int) : ∀ (A B : List LeafM), mostT bound (A ++ B) = max (mostT bound A) (mostT bound B)
  | [], B => by simp [mostT]
  | x :: A, B => by
    rw [List.cons_append, mostT, mostT, most_app bound A B]
    split
    · omega
    · rfl
theorem most_take {bound : Int} {C : List LeafM} {k : Nat} {x : LeafM} (h : C[k]? = some x) : mostT bound (C.take (k + 1)) = if (x.rules.length : Int) < bound then max (mostT bound (C.take k)) x.rules.length else mostT bound (C.take k) := by
  have e : mostT bound [x] = if (x.rules.length : Int) < bound then x.rules.length else 0 := by
    show (if _ then max _ 0 else 0) = _
    rw [Nat.max_zero]
  rw [List.take_add_one, h, most_app]
  show max _ (mostT bound [x]) = _
  rw [e]
  split
  · rfl
  · omega
theorem most_le {bound : Int} {N : Nat} : ∀ {C : List LeafM}, (∀ x ∈ C, x.rules.length ≤ N) → mostT bound C ≤ N
  | [], _ => Nat.zero_le _
  | x :: C, h => by
    have ih := most_le (bound := bound) (C := C) fun y hy => h y (List.mem_cons_of_mem _ hy)
    have hx := h x (by simp)
    unfold mostT
    split
    · omega
    · exact ih
theorem most_lt {bound : Int} (hb : 0 < bound) : ∀ (C : List LeafM), (mostT bound C : Int) < bound
  | [] => hb
  | x :: C => by
    have ih := most_lt hb C
    unfold mostT
    split
    · omega
    · exact ih
set_option maxHeartbeats 8000000 in
theorem most_any (C : List LeafM) (hn1 : C.length ≤ 100000) (hr1 : ∀ x ∈ C, x.rules.length ≤ 100000) (bound : Int) (B : Nat) (vc : Value) (w : World) (hc : LeavesAt B w vc C) :
    Calls Try.prog 36 #[vc, .int .i64 bound] w fun e w' => e = .returned (.int .i64 (mostT bound C : Nat)) ∧ Below w.heap.size w w' := by
  obtain ⟨o, cap, rfl, hc1, hc2⟩ := NSl.slice hc
  obtain ⟨n, hn0⟩ : ∃ n, n = C.length := ⟨_, rfl⟩
  have HN : Hid (n = C.length) := hn0
  rw [← hn0] at hc hc1 hn1 ⊢
  have HL : Hid (LeavesAt B w (.slice o n cap) C) := hc
  have HR1 : Hid (∀ x ∈ C, x.rules.length ≤ 100000) := hr1
  unfold maxLen at hc2
  obtain ⟨R, hR⟩ : ∃ R, R = mostT bound C := ⟨_, rfl⟩
  have HRR : Hid (R = mostT bound C) := hR
  rw [← hR]
  clear hc hn0 hR hr1
  go_enter Try.func36, Try.ntmps36
  go_wp2_with fail
  go_loopw [5, 10] (fun v i wr => ∃ (k m : Nat), k ≤ n ∧ i = .int .i64 (k : Int) ∧ v = .int .i64 (m : Int) ∧ Hid (m = mostT bound (C.take k)) ∧ Hid (Below w.heap.size w wr)) (fun _ i _ => n - (intOf i).toNat)
  case atStart => exact ⟨0, 0, Nat.zero_le _, rfl, rfl, rfl, Below.refl _ _⟩
  case round =>
    obtain ⟨k, m, hk, rfl, rfl, HM, HB⟩ := hrel
    by_cases hlt : k < n
    · have hlt' : (k : Int) < (n : Int) := by omega
      obtain ⟨g, off, cur, ty, fr, x, u, rfl, hg, hc, hxk, hxu⟩ := (NSl.below LfR.below HL.out HB.out).at k hlt
      obtain ⟨o2, cap2, rfl⟩ := hxu.slice
      have HX : Hid (okL x) := hxu.1
      have hfit := leaf_fits hxu.1 (u := .slice o2 x.rules.length cap2) ⟨_, _, _, rfl⟩
      have hsz := leafV_size hxu.1 (.slice o2 x.rules.length cap2)
      have HMT : Hid (mostT bound (C.take (k + 1)) = if (x.rules.length : Int) < bound then max m x.rules.length else m) := by show _ = _; rw [HM.out]; exact most_take hxk
      have hrl : x.rules.length ≤ 100000 := HR1.out x (List.mem_of_getElem? hxk)
      have hrc := (leaf_at hxu.1 (.slice o2 x.rules.length cap2)).2.2.2
      have K1 : Hid (wr.heap[g]? = some (.cells cur ty fr)) := hg
      have H1 : Hid (∀ j, j < 29 → cur[off + k * 29 + j]? = (leafV x (.slice o2 x.rules.length cap2))[j]?) := hc
      obtain ⟨w1, hw1⟩ : ∃ w1, w1 = wr.alloc (.cells (leafV x (.slice o2 x.rules.length cap2)) 45) := ⟨_, rfl⟩
      have B1 : Hid (Below w.heap.size w w1) := by show Below _ _ _; rw [hw1]; exact HB.out.alloc HB.out.size _
      have c28 : w1.cell? ⟨wr.heap.size, 28, none⟩ = some (.slice o2 x.rules.length cap2) := (cell_of_row _ _ _ _ _ _ (show w1.heap[wr.heap.size]? = some (.cells (leafV x (.slice o2 x.rules.length cap2)) 45 (0, 0)) by rw [hw1]; exact heap_new _ _ _ rfl)).trans hrc
      clear hg hc hxk hxu hrc
      go_wp2_with (first | (refine wl_loadE (E := LeafE) LeafOk rfl _ rfl g (off + k * 29) rfl cur ty fr (leafV x (.slice o2 x.rules.length cap2)) hsz K1.out H1.out ?_) | (refine wl_storeE (E := LeafE) LeafOk rfl _ _ rfl wr.heap.size (leafV x (.slice o2 x.rules.length cap2)) hfit rfl rfl _ (heap_new _ _ _ rfl) rfl _ (setRow_new _ _ _ _ _ rfl) ?_; refine of_stopT ?_))
      unfold StopT
      rw [← hw1]
      clear hw1
      generalize wr.heap.size = q at c28
      generalize x.rules.length = r at c28 HMT hrl
      by_cases hb : (r : Int) < bound
      · have HE : Hid (mostT bound (C.take (k + 1)) = max m r) := by show _ = _; rw [HMT.out, if_pos hb]
        go_wp2_with (refine wl_maxI rfl _ _ rfl (m : Int) (r : Int) ((max m r : Nat) : Int) rfl rfl (by omega) ?_)
        go_roundw
        case rel => exact ⟨k + 1, max m r, by omega, by go_num, rfl, HE.out.symm, B1⟩
        case measure => simp [intOf]; omega
      · have HE : Hid (mostT bound (C.take (k + 1)) = m) := by show _ = _; rw [HMT.out, if_neg hb]
        go_wp2_with fail
        go_roundw
        case rel => exact ⟨k + 1, m, by omega, by go_num, rfl, HE.out.symm, B1⟩
        case measure => simp [intOf]; omega
    · have hlt' : ¬ (k : Int) < (n : Int) := by omega
      have EN : Hid (R = m) := by show _ = _; rw [HRR.out, HM.out, List.take_of_length_le (by have := HN.out; omega)]
      go_wp2_with fail
      go_ret
      exact ⟨by rw [EN.out]; rfl, HB.out⟩
end Go.Proofs.Ytbhnjhiecoapbaa
