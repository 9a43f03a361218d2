import Derived.Test.YtbdbjbmjnemknaaDoorJ2
import Derived.Test.YtbdbjbmjnemknaaDoorJ1
import Derived.Laws.ResultCell
import Derived.LaidMore
import Derived.Lib.OthersKept
import Derived.Lib.LaidTab
import Derived.Lib.ItoaNum
namespace Go.Proofs.YtbdbjbmjnemknaaDoor
open Go Go.RowKit
set_option maxRecDepth 20000

/-- What holds at each moment of a drawn region: all that has come up has a value as is told; all other slots are as they were. -/
structure InvR (ops : Array Oper) (V : Nat → Value → World → Prop) (D : List Nat) (a0 : Act) (w0 : World) (listed : Array Bool) (a : Act) (w : World) : Prop where
  below : Below w0.heap.size w0 w
  size : a.tmps.size = a0.tmps.size
  defers : a.defers = a0.defers
  other : ∀ d, d ∉ D → a.eval (.tmp d) = a0.eval (.tmp d)
  has : ∀ j o d, ops[j]? = some o → o.dst = some d → listed.getD j false = true → V j (a.eval (.tmp d)) w
/-- What an operation finds when it comes up. -/
structure AtOp (ops : Array Oper) (V : Nat → Value → World → Prop) (D : List Nat) (a0 : Act) (w0 : World) (o : Oper) (a : Act) (w : World) : Prop where
  below : Below w0.heap.size w0 w
  size : a.tmps.size = a0.tmps.size
  defers : a.defers = a0.defers
  other : ∀ d, d ∉ D → a.eval (.tmp d) = a0.eval (.tmp d)
  has : ∀ e ∈ o.after, Region.binds .any e = true → ∀ oj d, ops[e.on]? = some oj → oj.dst = some d → V e.on (a.eval (.tmp d)) w
theorem dst_apart {ops : Array Oper} {D : List Nat} (hD : (ops.toList.filterMap (·.dst)) = D) (hnd : D.Nodup) {i j : Nat} {oi oj : Oper} {d : Nat} (hi : ops[i]? = some oi) (hj : ops[j]? = some oj) (di : oi.dst = some d) (dj : oj.dst = some d) : i = j := by
  subst hD
  rw [List.nodup_iff_pairwise_ne, List.pairwise_filterMap] at hnd
  rw [← Array.getElem?_toList] at hi hj
  obtain ⟨hi1, hi2⟩ := List.getElem?_eq_some_iff.1 hi
  obtain ⟨hj1, hj2⟩ := List.getElem?_eq_some_iff.1 hj
  rw [List.pairwise_iff_getElem] at hnd
  rcases Nat.lt_trichotomy i j with h | h | h
  · exact absurd rfl (hnd i j hi1 hj1 h d (by rw [hi2]; exact di) d (by rw [hj2]; exact dj))
  · exact h
  · exact absurd rfl (hnd j i hj1 hi1 h d (by rw [hj2]; exact dj) d (by rw [hi2]; exact di))
theorem falses_set (l : Array Bool) (i : Nat) (h : l.getD i true = false) : (l.setIfInBounds i true).toList.count false + 1 = l.toList.count false := by
  have hi : i < l.size := by
    rw [Array.getD_eq_getD_getElem?] at h
    rcases Nat.lt_or_ge i l.size with h1 | h1
    · exact h1
    · rw [Array.getElem?_eq_none h1] at h; simp at h
  have hv : l[i] = false := by
    rw [Array.getD_eq_getD_getElem?, Array.getElem?_eq_getElem hi] at h
    simpa using h
  rw [Array.toList_setIfInBounds]
  have hi' : i < l.toList.length := by simpa using hi
  have e : l.toList = l.toList.take i ++ false :: l.toList.drop (i + 1) := by
    have := List.drop_eq_getElem_cons hi'
    rw [show l.toList[i] = false by simpa using hv] at this
    rw [← this, List.take_append_drop]
  rw [List.set_eq_take_append_cons_drop, if_pos hi', e]
  have e2 : (l.toList.take i ++ false :: l.toList.drop (i + 1)).take i = l.toList.take i := by rw [← e]
  have e3 : (l.toList.take i ++ false :: l.toList.drop (i + 1)).drop (i + 1) = l.toList.drop (i + 1) := by rw [← e]
  rw [e2, e3, List.count_append, List.count_append, List.count_cons, List.count_cons]
  simp
  omega
theorem ready_none {md : Region.Mode} {ops : Array Oper} {l : Array Bool} (h : l.toList.count false = 0) : Region.ready md ops l = [] := by
  rw [List.eq_nil_iff_forall_not_mem]
  intro j hj
  have h1 := (mem_ready.1 hj).1
  rw [Array.getD_eq_getD_getElem?] at h1
  rcases Nat.lt_or_ge j l.size with h2 | h2
  · rw [Array.getElem?_eq_getElem h2] at h1
    have h3 : l[j] = false := by simpa using h1
    have : false ∈ l.toList := by rw [← h3]; exact Array.mem_toList_iff.2 (Array.getElem_mem h2)
    have := List.count_pos_iff.2 this
    omega
  · rw [Array.getElem?_eq_none h2] at h1; simp at h1
theorem getD_tf {l : Array Bool} {j : Nat} (h : l.getD j true = false) : l.getD j false = false := by
  rw [Array.getD_eq_getD_getElem?] at h ⊢
  rcases Nat.lt_or_ge j l.size with h2 | h2
  · rw [Array.getElem?_eq_getElem h2] at h ⊢; simpa using h
  · rw [Array.getElem?_eq_none h2]; rfl
theorem getD_set_ne' {l : Array Bool} {i j : Nat} (h : i ≠ j) (b c : Bool) : (l.setIfInBounds i b).getD j c = l.getD j c := by
  rw [Array.getD_eq_getD_getElem?, Array.getD_eq_getD_getElem?, Array.getElem?_setIfInBounds_ne h]
theorem ready_some {ops : Array Oper} {l : Array Bool} (hs : l.size = ops.size) (hdag : ∀ (i : Nat) (o : Oper), ops[i]? = some o → ∀ e ∈ o.after, e.on < i) : ∀ j, l.getD j true = false → Region.ready .any ops l ≠ [] := by
  intro j
  induction j using Nat.strongRecOn with
  | ind j ih =>
    intro hj hr
    have hjl : j < l.size := by
      rw [Array.getD_eq_getD_getElem?] at hj
      rcases Nat.lt_or_ge j l.size with h1 | h1
      · exact h1
      · rw [Array.getElem?_eq_none h1] at hj; simp at hj
    have ho : ops[j]? = some (ops[j]'(by omega)) := Array.getElem?_eq_getElem (by omega)
    by_cases hall : ∀ e ∈ (ops[j]'(by omega)).after, Region.binds .any e = true → l.getD e.on false = true
    · have : j ∈ Region.ready .any ops l := mem_ready.2 ⟨hj, _, ho, hall⟩
      rw [hr] at this
      simp at this
    · simp only [Classical.not_forall] at hall
      obtain ⟨e, he, hb, hl⟩ := hall
      have hlt := hdag j _ ho e he
      refine ih e.on hlt ?_ hr
      rw [Array.getD_eq_getD_getElem?, Array.getElem?_eq_getElem (by omega)] at hl ⊢
      simpa using hl
/-- A drawn region whose last operation waits for all others, and whose others make memory at most: in whatever order they come up, each finds what it waits for. -/
theorem region_inv {P : Program} {id : Nat} {Q : Exit → Act → World → Prop} {a0 : Act} {w0 : World} {lo : List Oper} (n : Nat) (V : Nat → Value → World → Prop) (D : List Nat) (hm : P.follows .mixedOrders = true)
    (hn : lo.length = n + 1) (hD : (lo.filterMap (·.dst)) = D) (hnd : D.Nodup) (hsz : ∀ d ∈ D, d < a0.tmps.size) (hdag : (lo.zipIdx.all fun x => x.1.after.all fun e => decide (e.on < x.2)) = true)
    (hlast : (lo[n]?).map (fun o => (List.range n).all fun j => o.after.any fun e => e.on == j && Region.binds .any e) = some true)
    (hV : ∀ j v w w', V j v w → Below w.heap.size w w' → V j v w')
    (hop : ∀ i o, lo[i]? = some o → i < n → ∀ a w, AtOp lo.toArray V D a0 w0.drew o a w → wpOp P lo.toArray Q i (fun a' w' => ∃ v, a' = a.put o.dst v ∧ Below w.heap.size w w' ∧ ∀ d, o.dst = some d → V i v w') a w)
    (hend : ∀ a w, Below w0.heap.size w0 w → a.tmps.size = a0.tmps.size → a.defers = a0.defers → (∀ d, d ∉ D → a.eval (.tmp d) = a0.eval (.tmp d)) → (∀ j o d, j < n → lo[j]? = some o → o.dst = some d → V j (a.eval (.tmp d)) w) → wpOp P lo.toArray Q n (fun a' w' => Q .normal a' w') a w) : (Code.region id lo.toArray true).wp P Q a0 w0 := by
  refine wp_region_any hm ?_
  have hdag' : ∀ (i : Nat) (o : Oper), lo.toArray[i]? = some o → ∀ e ∈ o.after, e.on < i := fun i o ho e he => by
    rw [List.all_eq_true] at hdag
    have ho' : lo[i]? = some o := by simpa using ho
    obtain ⟨hi, rfl⟩ := List.getElem?_eq_some_iff.1 ho'
    have := hdag (lo[i], i) (List.mem_zipIdx_iff_getElem?.2 (List.getElem?_eq_getElem hi))
    simp only [Array.all_eq_true_iff_forall_mem] at this
    simpa using this e he
  have hnd' := hnd
  have hDa : (lo.toArray.toList.filterMap (·.dst)) = D := by simpa using hD
  have inD : ∀ (i : Nat) (o : Oper) (d : Nat), lo.toArray[i]? = some o → o.dst = some d → d ∈ D := fun i o d ho hd => by
    rw [← hD, List.mem_filterMap]
    exact ⟨o, List.mem_of_getElem? (by simpa using ho), hd⟩
  have key : ∀ (f : Nat) (listed : Array Bool) (a : Act) (w : World), listed.toList.count false = f → listed.size = n + 1 → listed.getD n true = false → InvR lo.toArray V D a0 w0.drew listed a w → wpAny P .any lo.toArray Q f listed a w := by
    intro f
    induction f with
    | zero =>
      intro listed a w hc hs hln inv
      exfalso
      have : false ∈ listed.toList := by
        rw [Array.getD_eq_getD_getElem?, Array.getElem?_eq_getElem (by omega)] at hln
        have h3 : listed[n]'(by omega) = false := by simpa using hln
        rw [← h3]; exact Array.mem_toList_iff.2 (Array.getElem_mem (by omega))
      have := List.count_pos_iff.2 this
      omega
    | succ f ih =>
      intro listed a w hc hs hln inv
      refine ⟨fun hr => absurd hr (ready_some (by simpa [hn] using hs) hdag' n hln), fun i hi => ?_⟩
      obtain ⟨hiu, o, ho, hdeps⟩ := mem_ready.1 hi
      have hil : i < listed.size := by
        rw [Array.getD_eq_getD_getElem?] at hiu
        rcases Nat.lt_or_ge i listed.size with h1 | h1
        · exact h1
        · rw [Array.getElem?_eq_none h1] at hiu; simp at hiu
      have hcnt := falses_set listed i hiu
      by_cases hin : i = n
      · subst hin
        have hol : lo[i]? = some o := by simpa using ho
        have hall : ∀ j, j < i → listed.getD j false = true := fun j hj => by
          rw [hol] at hlast
          simp only [Option.map_some, Option.some.injEq, List.all_eq_true, List.mem_range] at hlast
          have := hlast j hj
          rw [Array.any_eq_true'] at this
          obtain ⟨e, he, hb⟩ := this
          simp only [Bool.and_eq_true, beq_iff_eq] at hb
          rw [← hb.1]
          exact hdeps e he hb.2
        refine wpOp_mono (fun a' w' hQ => ?_) (hend a w ((Below.refl _ _).drew.trans inv.below) inv.size inv.defers inv.other (fun j oj d hj hoj hd => inv.has j oj d (by simpa using hoj) hd (hall j hj)))
        have h0 : (listed.setIfInBounds i true).toList.count false = 0 := by
          rw [List.count_eq_zero]
          intro hmem
          obtain ⟨j, hj, hje⟩ := List.mem_iff_getElem.1 hmem
          rw [Array.getElem_toList] at hje
          have hj' : j < listed.size := by simpa using hj
          by_cases hji : i = j
          · subst hji
            rw [Array.getElem_setIfInBounds_self] at hje
            simp at hje
          · rw [Array.getElem_setIfInBounds_ne hj' hji] at hje
            have := hall j (by omega)
            rw [Array.getD_eq_getD_getElem?, Array.getElem?_eq_getElem hj'] at this
            simp [hje] at this
        obtain rfl : f = 0 := by omega
        exact ⟨ready_none h0, hQ⟩
      · have hlt : i < n := by omega
        have hol : lo[i]? = some o := by simpa using ho
        refine wpOp_mono (fun a' w' hK => ?_) (hop i o hol hlt a w ⟨inv.below, inv.size, inv.defers, inv.other, fun e he hb oj d hoj hd => inv.has e.on oj d hoj hd (hdeps e he hb)⟩)
        obtain ⟨v, rfl, hbw, hv⟩ := hK
        refine ih _ _ _ (by omega) (by simpa using hs) (by rw [getD_set_ne' hin]; exact hln) ⟨inv.below.trans (hbw.mono inv.below.size), by rw [size_put]; exact inv.size, ?_, fun d hd => ?_, fun j oj d hoj hd hlj => ?_⟩
        · have : (a.put o.dst v).defers = a.defers := by cases o.dst <;> rfl
          rw [this]; exact inv.defers
        · cases hdo : o.dst with
          | none => exact inv.other d hd
          | some k =>
            rw [eval_put _ _ _ _ (by rw [inv.size]; exact hsz k (inD i o k ho hdo)), if_neg (fun h : d = k => hd (by rw [h]; exact inD i o k ho hdo))]
            exact inv.other d hd
        · by_cases hji : j = i
          · subst hji
            obtain rfl : oj = o := Option.some.inj (hoj.symm.trans ho)
            rw [hd, eval_put _ _ _ _ (by rw [inv.size]; exact hsz d (inD j oj d ho hd)), if_pos rfl]
            exact hv d hd
          · rw [getD_set_ne' (Ne.symm hji)] at hlj
            have h1 := hV _ _ _ _ (inv.has j oj d hoj hd hlj) hbw
            cases hdo : o.dst with
            | none => exact h1
            | some k =>
              have hkd : ¬ d = k := fun h => hji (dst_apart hDa hnd' hoj ho hd (by rw [h]; exact hdo))
              rw [eval_put _ _ _ _ (by rw [inv.size]; exact hsz k (inD i o k ho hdo)), if_neg hkd]
              exact h1
  have hrep : (Array.replicate lo.toArray.size false).toList.count false = lo.toArray.size := by simp
  refine key _ _ _ _ hrep (by simp [hn]) ?_ ⟨Below.refl _ _, rfl, rfl, fun _ _ => rfl, fun j o d _ _ hl => ?_⟩
  · rw [Array.getD_eq_getD_getElem?, Array.getElem?_eq_getElem (by simp [hn])]
    simp
  · exfalso
    rw [Array.getD_eq_getD_getElem?] at hl
    rcases Nat.lt_or_ge j (Array.replicate lo.toArray.size false).size with h1 | h1
    · rw [Array.getElem?_eq_getElem h1] at hl; simp at hl
    · rw [Array.getElem?_eq_none h1] at hl; simp at hl
/-! Steps of such a region. -/
theorem iv_val {ops : Array Oper} {Q : Exit → Act → World → Prop} {V : Nat → Value → World → Prop} {i : Nat} {o : Oper} {a : Act} {w : World} (hi : ops[i]? = some o) (hw : Region.wanted o (yielded ops a.tmps) = true) (v : Value)
    (hx : (execOp a.eval o).run Tryd.prog w = .ok (.value v) w) (hv : V i v w) : wpOp Tryd.prog ops Q i (fun a' w' => ∃ v, a' = a.put o.dst v ∧ Below w.heap.size w w' ∧ ∀ d, o.dst = some d → V i v w') a w :=
  wpOp_val hi hw v hx o.dst rfl ⟨v, rfl, Below.refl _ _, fun _ _ => hv⟩
theorem iv_not {ops : Array Oper} {Q : Exit → Act → World → Prop} {V : Nat → Value → World → Prop} {i : Nat} {o : Oper} {a : Act} {w : World} (hi : ops[i]? = some o) (hw : Region.wanted o (yielded ops a.tmps) = false) (hv : V i undef w) :
    wpOp Tryd.prog ops Q i (fun a' w' => ∃ v, a' = a.put o.dst v ∧ Below w.heap.size w w' ∧ ∀ d, o.dst = some d → V i v w') a w := by
  unfold Go.wpOp
  simp only [hi, hw]
  exact ⟨undef, rfl, Below.refl _ _, fun _ _ => hv⟩
theorem iv_call {ops : Array Oper} {Q : Exit → Act → World → Prop} {V : Nat → Value → World → Prop} {i : Nat} {o : Oper} {a : Act} {w : World} (hi : ops[i]? = some o) (hw : Region.wanted o (yielded ops a.tmps) = true) (f : FuncId) (vs : Array Value)
    (hf : (execOp a.eval o).run Tryd.prog w = .ok (.enter f vs) w) (h : Calls Tryd.prog f vs w fun e w' => ∃ v, e = .returned v ∧ Below w.heap.size w w' ∧ V i v w') : wpOp Tryd.prog ops Q i (fun a' w' => ∃ v, a' = a.put o.dst v ∧ Below w.heap.size w w' ∧ ∀ d, o.dst = some d → V i v w') a w :=
  wpOp_callQ hi hw f vs hf _ h o.dst rfl (fun v w' hD => by
    obtain ⟨u, hu, hb, hv⟩ := hD
    obtain rfl : v = u := by simpa using hu
    exact ⟨v, rfl, hb, fun _ _ => hv⟩) (fun ch w' hD => by obtain ⟨u, hu, _⟩ := hD; cases hu) (fun w' hD => by obtain ⟨u, hu, _⟩ := hD; cases hu)
theorem iv_list {ops : Array Oper} {Q : Exit → Act → World → Prop} {V : Nat → Value → World → Prop} {i : Nat} {o : Oper} {a : Act} {w : World} (hi : ops[i]? = some o)
    (h : wpList Tryd.prog ops (fun e a' w' => match e with | .normal => (∃ v, a' = a.put o.dst v ∧ Below w.heap.size w w' ∧ ∀ d, o.dst = some d → V i v w') | e => Q e a' w') [o] a w) : wpOp Tryd.prog ops Q i (fun a' w' => ∃ v, a' = a.put o.dst v ∧ Below w.heap.size w w' ∧ ∀ d, o.dst = some d → V i v w') a w :=
  wpOp_of_list hi h
theorem run_callOps {o : Oper} {f : Nat} {xs : Array Operand} {ts : Array TypeId} (ho : o.op = .call { callee := .value (.func f), args := xs, argTypes := ts }) (hf : ∀ vs W, (callFunc f vs).run Tryd.prog W = .ok (.enter f vs) W) (a : Act) (W : World) (vs : Array Value) (h : xs.map a.eval = vs) : (execOp a.eval o).run Tryd.prog W = .ok (.enter f vs) W := by
  unfold execOp
  have hef : a.eval (.func f) = .func (.func f) #[] #[] := rfl
  simp only [ho, resolve, hef, h]
  simp [go_sem, hf]
theorem run_pickOp {o : Oper} {x y z : Operand} (ho : o.op = .pick x y z) (a : Act) (W : World) (b : Bool) (hb : a.eval x = .bool b) (v : Value) (hv : (if b then a.eval y else a.eval z) = v) : (execOp a.eval o).run Tryd.prog W = .ok (.value v) W := by
  unfold execOp
  simp only [ho, hb, ← hv]
  cases b <;> simp [go_sem]
theorem iv_alloc {E : El} (H : E.Ok) {ops : Array Oper} {Q : Exit → Act → World → Prop} {V : Nat → Value → World → Prop} {i : Nat} {o : Oper} {a : Act} {w : World} (hi : ops[i]? = some o) (hw : Region.wanted o (yielded ops a.tmps) = true) (ho : o.op = .alloc E.elem)
    (hv : V i (.pointer (some ⟨w.heap.size, 0, none⟩)) (w.alloc (.cells E.zero E.elem))) : wpOp Tryd.prog ops Q i (fun a' w' => ∃ v, a' = a.put o.dst v ∧ Below w.heap.size w w' ∧ ∀ d, o.dst = some d → V i v w') a w := by
  obtain ⟨ie, h1, h2, _, _⟩ := H.info
  have hx : (execOp a.eval o).run Tryd.prog w = .ok (.value (.pointer (some ⟨w.heap.size, 0, none⟩))) (w.alloc (.cells E.zero E.elem)) := by
    unfold execOp
    simp only [ho]
    simp [go_sem, Instr.alloc, zeroValue, typeInfo, h1, h2, Value.cells]
  exact wpOp_val hi hw _ hx o.dst rfl ⟨_, rfl, (Below.refl _ _).alloc (Nat.le_refl _) _, fun _ _ => hv⟩
/-- The frame behind such a region: the slots that it wrote, one by one. -/
def putsD (D : List Nat) (y : Nat → Value) (a : Act) : Act := D.foldl (fun b d => b.put (some d) (y d)) a
theorem putsD_size (y : Nat → Value) : ∀ (D : List Nat) (a : Act), (putsD D y a).tmps.size = a.tmps.size ∧ (putsD D y a).defers = a.defers
  | [], a => ⟨rfl, rfl⟩
  | d :: D, a => by
    have := putsD_size y D (a.put (some d) (y d))
    exact ⟨this.1.trans (size_put _ _ _), this.2.trans rfl⟩
theorem putsD_eval (y : Nat → Value) : ∀ (D : List Nat) (a : Act), (∀ d ∈ D, d < a.tmps.size) → ∀ k, (putsD D y a).eval (.tmp k) = if k ∈ D then y k else a.eval (.tmp k)
  | [], a, _, k => by simp [putsD]
  | d :: D, a, h, k => by
    show (putsD D y (a.put (some d) (y d))).eval (.tmp k) = _
    rw [putsD_eval y D _ (fun e he => by rw [size_put]; exact h e (by simp [he])) k]
    by_cases hk : k ∈ D
    · rw [if_pos hk, if_pos (by simp [hk])]
    · rw [if_neg hk, eval_put _ _ _ _ (h d (by simp))]
      by_cases hkd : k = d
      · rw [if_pos hkd, if_pos (by simp [hkd]), hkd]
      · rw [if_neg hkd, if_neg (by simp [hk, hkd])]
theorem act_ext {a b : Act} (hs : a.tmps.size = b.tmps.size) (hd : a.defers = b.defers) (he : ∀ k, a.eval (.tmp k) = b.eval (.tmp k)) : a = b := by
  obtain ⟨ta, da⟩ := a
  obtain ⟨tb, db⟩ := b
  simp only at hs hd
  subst hd
  congr 1
  refine Array.ext hs fun k h1 h2 => ?_
  have := he k
  simp only [Act.eval, Array.getD_eq_getD_getElem?] at this
  rw [Array.getElem?_eq_getElem h1, Array.getElem?_eq_getElem h2] at this
  simpa using this
theorem puts_form {D : List Nat} {a a0 : Act} (hs : a.tmps.size = a0.tmps.size) (hd : a.defers = a0.defers) (ho : ∀ d, d ∉ D → a.eval (.tmp d) = a0.eval (.tmp d)) (hD : ∀ d ∈ D, d < a0.tmps.size) : a = putsD D (fun d => a.eval (.tmp d)) a0 := by
  obtain ⟨h1, h2⟩ := putsD_size (fun d => a.eval (.tmp d)) D a0
  refine act_ext (hs.trans h1.symm) (hd.trans h2.symm) fun k => ?_
  rw [putsD_eval _ _ _ hD]
  split
  · rfl
  · rename_i h; exact ho k h
end Go.Proofs.YtbdbjbmjnemknaaDoor
namespace Go.Proofs.YtbdbjbmjnemknaaDoor
open Go Go.RowKit
set_option maxRecDepth 20000

def chk6_ops : List Oper := [
  { dst := some 19, op := .move (.tmp 9), type := 3, pos := "sense.go:25", after := #[], guard := none },
  { dst := some 20, op := .binOp .geq 3 (.tmp 19) (.const (.int .i64 64)) 3, type := 4, pos := "sense.go:25", after := #[{ on := 0, ground := .data }], guard := none },
  { dst := some 21, op := .fieldAddr 55 (.tmp 10) 0, type := 0, pos := "sense.go:25", after := #[], guard := none },
  { dst := some 22, op := .load 3 (.tmp 21), type := 3, pos := "sense.go:25", after := #[{ on := 2, ground := .data }], guard := none },
  { dst := some 23, op := .call { callee := .value (.func 24), args := #[.tmp 20, .const (.int .i64 4), .tmp 22], argTypes := #[4, 24, 3] }, type := 68, pos := "sense.go:26", after := #[{ on := 1, ground := .data }, { on := 3, ground := .data }], guard := none },
  { dst := some 24, op := .move (.tmp 8), type := 4, pos := "sense.go:25", after := #[], guard := none },
  { dst := some 25, op := .move (.tmp 24), type := 4, pos := "sense.go:25", after := #[{ on := 5, ground := .data }, { on := 4, ground := .chain }], guard := none },
  { dst := some 26, op := .fieldAddr 55 (.tmp 10) 1, type := 0, pos := "sense.go:25", after := #[{ on := 6, ground := .guard }], guard := some (6, true) },
  { dst := some 27, op := .load 4 (.tmp 26), type := 4, pos := "sense.go:25", after := #[{ on := 7, ground := .data }, { on := 6, ground := .guard }], guard := some (6, true) },
  { dst := some 28, op := .pick (.tmp 25) (.tmp 27) (.const (.bool false)), type := 4, pos := "sense.go:25", after := #[{ on := 6, ground := .data }, { on := 8, ground := .data }], guard := none },
  { dst := some 29, op := .fieldAddr 55 (.tmp 10) 0, type := 0, pos := "sense.go:25", after := #[], guard := none },
  { dst := some 30, op := .load 3 (.tmp 29), type := 3, pos := "sense.go:25", after := #[{ on := 10, ground := .data }], guard := none },
  { dst := some 31, op := .call { callee := .value (.func 24), args := #[.tmp 28, .const (.int .i64 9), .tmp 30], argTypes := #[4, 24, 3] }, type := 68, pos := "sense.go:27", after := #[{ on := 9, ground := .data }, { on := 11, ground := .data }, { on := 6, ground := .chain }], guard := none },
  { dst := some 32, op := .load 55 (.tmp 10), type := 55, pos := "sense.go:25", after := #[], guard := none },
  { dst := some 33, op := .call { callee := .value (.func 25), args := #[.tmp 32], argTypes := #[55] }, type := 68, pos := "sense.go:28", after := #[{ on := 13, ground := .data }, { on := 12, ground := .chain }], guard := none },
  { dst := some 34, op := .load 55 (.tmp 10), type := 55, pos := "sense.go:25", after := #[], guard := none },
  { dst := some 35, op := .call { callee := .value (.func 26), args := #[.tmp 34], argTypes := #[55] }, type := 68, pos := "sense.go:29", after := #[{ on := 15, ground := .data }, { on := 14, ground := .chain }], guard := none },
  { dst := some 36, op := .buildSlice 94 4 #[(0, .tmp 23), (1, .tmp 31), (2, .tmp 33), (3, .tmp 35)], type := 94, pos := "sense.go:25", after := #[{ on := 4, ground := .data }, { on := 12, ground := .data }, { on := 14, ground := .data }, { on := 16, ground := .data }], guard := none },
  { dst := some 37, op := .call { callee := .value (.func 23), args := #[.tmp 36], argTypes := #[94] }, type := 68, pos := "sense.go:25", after := #[{ on := 17, ground := .data }, { on := 16, ground := .chain }], guard := none },
  { dst := some 11, op := .alloc 68, type := 0, pos := "sense.go:25", after := #[], guard := none },
  { dst := none, op := .store 68 (.tmp 11) (.tmp 37), type := 0, pos := "sense.go:25", after := #[{ on := 19, ground := .data }, { on := 18, ground := .data }, { on := 18, ground := .chain }, { on := 0, ground := .phase }, { on := 1, ground := .phase }, { on := 2, ground := .phase }, { on := 3, ground := .phase }, { on := 4, ground := .phase }, { on := 5, ground := .phase }, { on := 6, ground := .phase }, { on := 7, ground := .phase }, { on := 8, ground := .phase }, { on := 9, ground := .phase }, { on := 10, ground := .phase }, { on := 11, ground := .phase }, { on := 12, ground := .phase }, { on := 13, ground := .phase }, { on := 14, ground := .phase }, { on := 15, ground := .phase }, { on := 16, ground := .phase }, { on := 17, ground := .phase }, { on := 18, ground := .phase }, { on := 19, ground := .phase }], guard := none }]
def chk6_D : List Nat := [19, 20, 21, 22, 23, 24, 25, 26, 27, 28, 29, 30, 31, 32, 33, 34, 35, 36, 37, 11]
/-- What each operation comes to. -/
def chk6_V (k p B : Nat) (had : Bool) (r : Raw) (u : Value) (i : Nat) (v : Value) (w : World) : Prop :=
  match i with
  | 0 => v = .int .i64 (k : Int)
  | 1 => v = .bool (decide (64 ≤ k))
  | 2 => v = .pointer (some ⟨p, 0, none⟩)
  | 3 => v = .int .i64 r.pos
  | 4 => v = .agg (fltV (whenF (decide (64 ≤ k)) 4 r.pos))
  | 5 => v = .bool had
  | 6 => v = .bool had
  | 7 => had = true → v = .pointer (some ⟨p, 1, none⟩)
  | 8 => had = true → v = .bool r.dflt
  | 9 => v = .bool (had && r.dflt)
  | 10 => v = .pointer (some ⟨p, 0, none⟩)
  | 11 => v = .int .i64 r.pos
  | 12 => v = .agg (fltV (whenF (had && r.dflt) 9 r.pos))
  | 13 => v = .agg (rawV r u)
  | 14 => v = .agg (fltV (lineF r))
  | 15 => v = .agg (rawV r u)
  | 16 => v = .agg (fltV (actF r))
  | 17 => GSl FltE fltV w v [whenF (decide (64 ≤ k)) 4 r.pos, whenF (had && r.dflt) 9 r.pos, lineF r, actF r]
  | 18 => v = .agg (fltV (rowF k had r))
  | 19 => ∃ g, v = .pointer (some ⟨g, 0, none⟩) ∧ B ≤ g ∧ w.heap[g]? = some (.cells FltE.zero FltE.elem (0, 0))
  | _ => True
theorem chk6_mono (k p B : Nat) (had : Bool) (r : Raw) (u : Value) : ∀ j v w w', chk6_V k p B had r u j v w → Below w.heap.size w w' → chk6_V k p B had r u j v w' := by
  intro j v w w' h hb
  revert h
  unfold chk6_V
  split <;> intro h <;> first
    | exact h
    | exact GSl.below h hb
    | (obtain ⟨g, h1, h2, h3⟩ := h
       exact ⟨g, h1, h2, (hb.block g (Array.getElem?_eq_some_iff.1 h3).1).trans h3⟩)
theorem rowF_four (k : Nat) (had : Bool) (r : Raw) : firstF [whenF (decide (64 ≤ k)) 4 r.pos, whenF (had && r.dflt) 9 r.pos, lineF r, actF r] = rowF k had r := by
  unfold rowF orF whenF
  simp only [firstF]
  by_cases h : 64 ≤ k <;> simp [h]
theorem run_binOp {o : Oper} {op : BinOp} {t z : Nat} {x y : Operand} (ho : o.op = .binOp op t x y z) (a : Act) (W : World) (vx vy : Value) (hx : a.eval x = vx) (hy : a.eval y = vy) (v : Value) (hg : (eqGuard op t x y vx vy).run Tryd.prog W = .ok () W) (h : (binOp op t vx vy).run Tryd.prog W = .ok v W) : (execOp a.eval o).run Tryd.prog W = .ok (.value v) W := by
  unfold execOp
  simp only [ho, Sem.run_bind, hx, hy, hg, h, Result.andThen_ok, Sem.run_pure]
theorem load_raw (W : World) (p : Nat) (r : Raw) (u : Value) (h : W.heap[p]? = some (.cells (rawV r u) 55 (0, 0))) : (Instr.loadAt 55 (.pointer (some ⟨p, 0, none⟩))).run Tryd.prog W = .ok (.agg (rawV r u)) W := by
  simp only [Instr.loadAt, Instr.sureAddr, Sem.run_bind, Sem.run_pure, Result.andThen_ok]
  exact RawOk.load W p 0 _ _ _ (rawV r u) rfl h (own_cells _ _)
theorem load_int (W : World) (ad : Addr) (n : Int) (h : W.cell? ad = some (.int .i64 n)) : (Instr.loadAt 3 (.pointer (some ad))).run Tryd.prog W = .ok (.int .i64 n) W := by
  simp [go_sem, h]
theorem load_bool (W : World) (ad : Addr) (b : Bool) (h : W.cell? ad = some (.bool b)) : (Instr.loadAt 4 (.pointer (some ad))).run Tryd.prog W = .ok (.bool b) W := by
  simp [go_sem, h]

theorem yielded6 (a : Act) (b : Bool) (h : a.eval (.tmp 25) = .bool b) (hs : 25 < a.tmps.size) : yielded chk6_ops.toArray a.tmps 6 = some b := by
  have h' : a.tmps[25]? = some (.bool b) := by
    simp only [Act.eval, Array.getD_eq_getD_getElem?, Array.getElem?_eq_getElem hs, Option.getD_some] at h
    rw [Array.getElem?_eq_getElem hs, h]
  unfold yielded
  have e : ((chk6_ops.toArray[6]?).bind (·.dst)) = some 25 := rfl
  rw [e]
  simp only [Option.bind_some, h']
set_option maxHeartbeats 4000000 in
theorem chk6_region {id : Nat} {Q : Exit → Act → World → Prop} {a0 : Act} {w0 : World} (hs : 60 ≤ a0.tmps.size) (k p : Nat) (had : Bool) (r : Raw) (u : Value) (h8 : a0.eval (.tmp 8) = .bool had) (h9 : a0.eval (.tmp 9) = .int .i64 (k : Int)) (h10 : a0.eval (.tmp 10) = .pointer (some ⟨p, 0, none⟩))
    (hp : w0.heap[p]? = some (.cells (rawV r u) 55 (0, 0))) (hu : ClasAt w0 r u)
    (hK : ∀ y w' g, y 11 = .pointer (some ⟨g, 0, none⟩) → w0.heap.size ≤ g → Below w0.heap.size w0 w' → w'.heap[g]? = some (.cells (fltV (rowF k had r)) 68 (0, 0)) → Q .normal (putsD chk6_D y a0) w') : (Code.region id chk6_ops.toArray true).wp Tryd.prog Q a0 w0 := by
  have hDs : ∀ d ∈ chk6_D, d < a0.tmps.size := fun d hd => by
    have : d < 60 := by
      revert hd; unfold chk6_D; intro hd
      simp only [List.mem_cons, List.not_mem_nil, or_false] at hd
      omega
    omega
  have hul : ∃ o n m, u = .slice o n m := by obtain ⟨o, cap, rfl, _⟩ := NSl.slice hu; exact ⟨_, _, _, rfl⟩
  refine region_inv 20 (chk6_V k p w0.heap.size had r u) chk6_D (by kernel_rfl) rfl (by kernel_rfl) (by decide) hDs (by kernel_rfl) (by kernel_rfl) (chk6_mono k p w0.heap.size had r u) ?_ ?_
  · intro i o ho hi a w h
    have B : Below w0.heap.size w0 w := (Below.refl _ _).drew.trans h.below
    have e8 : a.eval (.tmp 8) = .bool had := (h.other 8 (by decide)).trans h8
    have e9 : a.eval (.tmp 9) = .int .i64 (k : Int) := (h.other 9 (by decide)).trans h9
    have e10 : a.eval (.tmp 10) = .pointer (some ⟨p, 0, none⟩) := (h.other 10 (by decide)).trans h10
    have bp : w.heap[p]? = some (.cells (rawV r u) 55 (0, 0)) := (B.block p (Array.getElem?_eq_some_iff.1 hp).1).trans hp
    have c := raw_f bp
    have fa : ∀ j, j < 2 → (Instr.fieldAt 55 (.pointer (some ⟨p, 0, none⟩)) j).run Tryd.prog w = .ok (.pointer (some ⟨p, j, none⟩)) w := fun j hj => by
      rcases (show j = 0 ∨ j = 1 by omega) with rfl | rfl <;> simp [go_sem]
    have cw : ∀ vs W, (callFunc 24 vs).run Tryd.prog W = .ok (.enter 24 vs) W := fun vs W => by have hf := Tryd.func24; simp [go_sem]
    have cr : ∀ vs W, (callFunc 25 vs).run Tryd.prog W = .ok (.enter 25 vs) W := fun vs W => by have hf := Tryd.func25; simp [go_sem]
    have ca : ∀ vs W, (callFunc 26 vs).run Tryd.prog W = .ok (.enter 26 vs) W := fun vs W => by have hf := Tryd.func26; simp [go_sem]
    have cf : ∀ vs W, (callFunc 23 vs).run Tryd.prog W = .ok (.enter 23 vs) W := fun vs W => by have hf := Tryd.func23; simp [go_sem]
    rcases (show i = 0 ∨ i = 1 ∨ i = 2 ∨ i = 3 ∨ i = 4 ∨ i = 5 ∨ i = 6 ∨ i = 7 ∨ i = 8 ∨ i = 9 ∨ i = 10 ∨ i = 11 ∨ i = 12 ∨ i = 13 ∨ i = 14 ∨ i = 15 ∨ i = 16 ∨ i = 17 ∨ i = 18 ∨ i = 19 by omega) with rfl | rfl | rfl | rfl | rfl | rfl | rfl | rfl | rfl | rfl | rfl | rfl | rfl | rfl | rfl | rfl | rfl | rfl | rfl | rfl
    · obtain rfl := Option.some.inj ho
      exact iv_val rfl rfl _ (run_moveOp rfl _ _ _ e9) rfl
    · obtain rfl := Option.some.inj ho
      have f0 : a.eval (.tmp 19) = .int .i64 (k : Int) := h.has ⟨0, .data⟩ (by simp) rfl _ 19 rfl rfl
      refine iv_val rfl rfl (.bool (decide (64 ≤ k))) (run_binOp rfl _ _ _ _ f0 rfl _ (by simp [go_sem]) ?_) rfl
      simp [go_sem]
      omega
    · obtain rfl := Option.some.inj ho
      exact iv_val rfl rfl _ (run_fieldOp rfl _ _ _ ((congrArg (fun y => (Instr.fieldAt 55 y 0).run Tryd.prog w) e10).trans (fa 0 (by decide)))) rfl
    · obtain rfl := Option.some.inj ho
      have f2 : a.eval (.tmp 21) = .pointer (some ⟨p, 0, none⟩) := h.has ⟨2, .data⟩ (by simp) rfl _ 21 rfl rfl
      exact iv_val rfl rfl _ (run_loadOp rfl _ _ _ _ f2 (load_int _ _ _ c.1)) rfl
    · obtain rfl := Option.some.inj ho
      have f1 : a.eval (.tmp 20) = .bool (decide (64 ≤ k)) := h.has ⟨1, .data⟩ (by simp) rfl _ 20 rfl rfl
      have f3 : a.eval (.tmp 22) = .int .i64 r.pos := h.has ⟨3, .data⟩ (by simp) rfl _ 22 rfl rfl
      exact iv_call rfl rfl 24 #[.bool (decide (64 ≤ k)), .int .i64 4, .int .i64 r.pos] (run_callOps rfl cw _ _ _ (by simp only [List.map_toArray, List.map_cons, List.map_nil, f1, f3]; rfl)) ((whenF_any _ _ _ w).mono fun e w' h => ⟨_, h.1, h.2, rfl⟩)
    · obtain rfl := Option.some.inj ho
      exact iv_val rfl rfl _ (run_moveOp rfl _ _ _ e8) rfl
    · obtain rfl := Option.some.inj ho
      have f5 : a.eval (.tmp 24) = .bool had := h.has ⟨5, .data⟩ (by simp) rfl _ 24 rfl rfl
      exact iv_val rfl rfl _ (run_moveOp rfl _ _ _ f5) rfl
    · obtain rfl := Option.some.inj ho
      have f6 : a.eval (.tmp 25) = .bool had := h.has ⟨6, .guard⟩ (by simp) rfl _ 25 rfl rfl
      have hy := yielded6 a had f6 (by rw [h.size]; omega)
      cases had with
      | true => exact iv_val rfl (by unfold Region.wanted; simp only [hy]; rfl) _ (run_fieldOp rfl _ _ _ ((congrArg (fun y => (Instr.fieldAt 55 y 1).run Tryd.prog w) e10).trans (fa 1 (by decide)))) (fun _ => rfl)
      | false => exact iv_not rfl (by unfold Region.wanted; simp only [hy]; rfl) (fun hh => by cases hh)
    · obtain rfl := Option.some.inj ho
      have f6 : a.eval (.tmp 25) = .bool had := h.has ⟨6, .guard⟩ (by simp) rfl _ 25 rfl rfl
      have f7 : had = true → a.eval (.tmp 26) = .pointer (some ⟨p, 1, none⟩) := h.has ⟨7, .data⟩ (by simp) rfl _ 26 rfl rfl
      have hy := yielded6 a had f6 (by rw [h.size]; omega)
      cases had with
      | true => exact iv_val rfl (by unfold Region.wanted; simp only [hy]; rfl) _ (run_loadOp rfl _ _ _ _ (f7 rfl) (load_bool _ _ _ c.2.1)) (fun _ => rfl)
      | false => exact iv_not rfl (by unfold Region.wanted; simp only [hy]; rfl) (fun hh => by cases hh)
    · obtain rfl := Option.some.inj ho
      have f6 : a.eval (.tmp 25) = .bool had := h.has ⟨6, .data⟩ (by simp) rfl _ 25 rfl rfl
      have f8 : had = true → a.eval (.tmp 27) = .bool r.dflt := h.has ⟨8, .data⟩ (by simp) rfl _ 27 rfl rfl
      refine iv_val rfl rfl (.bool (had && r.dflt)) (run_pickOp rfl _ _ had f6 _ ?_) rfl
      cases had with
      | true => exact f8 rfl
      | false => rfl
    · obtain rfl := Option.some.inj ho
      exact iv_val rfl rfl _ (run_fieldOp rfl _ _ _ ((congrArg (fun y => (Instr.fieldAt 55 y 0).run Tryd.prog w) e10).trans (fa 0 (by decide)))) rfl
    · obtain rfl := Option.some.inj ho
      have f2 : a.eval (.tmp 29) = .pointer (some ⟨p, 0, none⟩) := h.has ⟨10, .data⟩ (by simp) rfl _ 29 rfl rfl
      exact iv_val rfl rfl _ (run_loadOp rfl _ _ _ _ f2 (load_int _ _ _ c.1)) rfl
    · obtain rfl := Option.some.inj ho
      have f1 : a.eval (.tmp 28) = .bool (had && r.dflt) := h.has ⟨9, .data⟩ (by simp) rfl _ 28 rfl rfl
      have f3 : a.eval (.tmp 30) = .int .i64 r.pos := h.has ⟨11, .data⟩ (by simp) rfl _ 30 rfl rfl
      exact iv_call rfl rfl 24 #[.bool (had && r.dflt), .int .i64 9, .int .i64 r.pos] (run_callOps rfl cw _ _ _ (by simp only [List.map_toArray, List.map_cons, List.map_nil, f1, f3]; rfl)) ((whenF_any _ _ _ w).mono fun e w' h => ⟨_, h.1, h.2, rfl⟩)
    · obtain rfl := Option.some.inj ho
      exact iv_val rfl rfl _ (run_loadOp rfl _ _ _ _ e10 (load_raw _ _ _ _ bp)) rfl
    · obtain rfl := Option.some.inj ho
      have f1 : a.eval (.tmp 32) = .agg (rawV r u) := h.has ⟨13, .data⟩ (by simp) rfl _ 32 rfl rfl
      exact iv_call rfl rfl 25 #[.agg (rawV r u)] (run_callOps rfl cr _ _ _ (by simp [f1])) ((ruleF_any r u w (clas_below _ _ _ _ B hu)).mono fun e w' h => ⟨_, h.1, h.2, rfl⟩)
    · obtain rfl := Option.some.inj ho
      exact iv_val rfl rfl _ (run_loadOp rfl _ _ _ _ e10 (load_raw _ _ _ _ bp)) rfl
    · obtain rfl := Option.some.inj ho
      have f1 : a.eval (.tmp 34) = .agg (rawV r u) := h.has ⟨15, .data⟩ (by simp) rfl _ 34 rfl rfl
      exact iv_call rfl rfl 26 #[.agg (rawV r u)] (run_callOps rfl ca _ _ _ (by simp [f1])) ((actionF_any r u hul w).mono fun e w' h => ⟨_, h.1, h.2, rfl⟩)
    · obtain rfl := Option.some.inj ho
      have f1 : a.eval (.tmp 23) = .agg (fltV (whenF (decide (64 ≤ k)) 4 r.pos)) := h.has ⟨4, .data⟩ (by simp) rfl _ 23 rfl rfl
      have f2 : a.eval (.tmp 31) = .agg (fltV (whenF (had && r.dflt) 9 r.pos)) := h.has ⟨12, .data⟩ (by simp) rfl _ 31 rfl rfl
      have f3 : a.eval (.tmp 33) = .agg (fltV (lineF r)) := h.has ⟨14, .data⟩ (by simp) rfl _ 33 rfl rfl
      have f4 : a.eval (.tmp 35) = .agg (fltV (actF r)) := h.has ⟨16, .data⟩ (by simp) rfl _ 35 rfl rfl
      refine iv_list rfl ?_
      refine wl_build4F rfl _ _ _ _ rfl _ _ _ _ f1 f2 f3 f4 ?_
      exact ⟨_, rfl, (Below.refl _ _).alloc (Nat.le_refl _) _, fun _ _ => gsl_row (E := FltE) (C := [whenF (decide (64 ≤ k)) 4 r.pos, whenF (had && r.dflt) 9 r.pos, lineF r, actF r]) (fun _ => rfl) (heap_new _ _ _ rfl) (by show 4 ≤ _; decide)⟩
    · obtain rfl := Option.some.inj ho
      have f1 : GSl FltE fltV w (a.eval (.tmp 36)) [whenF (decide (64 ≤ k)) 4 r.pos, whenF (had && r.dflt) 9 r.pos, lineF r, actF r] := h.has ⟨17, .data⟩ (by simp) rfl _ 36 rfl rfl
      refine iv_call rfl rfl 23 #[a.eval (.tmp 36)] (run_callOps rfl cf _ _ _ (by simp)) ((first7_any _ _ w f1).mono fun e w' h => ⟨_, h.1, h.2, ?_⟩)
      show _ = _
      rw [rowF_four]
    · obtain rfl := Option.some.inj ho
      exact iv_alloc FltOk rfl rfl rfl ⟨_, rfl, B.size, heap_new _ _ _ rfl⟩
  · intro a w hb hsz hdf hot hh
    obtain ⟨g, f1, hg, hz⟩ : ∃ g, a.eval (.tmp 11) = .pointer (some ⟨g, 0, none⟩) ∧ w0.heap.size ≤ g ∧ w.heap[g]? = some (.cells FltE.zero FltE.elem (0, 0)) := hh 19 _ 11 (by decide) rfl rfl
    have f2 : a.eval (.tmp 37) = .agg (fltV (rowF k had r)) := hh 18 _ 37 (by decide) rfl rfl
    refine wpOp_of_list rfl ?_
    refine wl_storeE (E := FltE) FltOk rfl _ _ rfl g (fltV (rowF k had r)) (flt_fits _) f1 f2 _ hz rfl _ rfl ?_
    show Q .normal a _
    rw [puts_form hsz hdf hot hDs]
    exact hK _ _ g f1 hg (below_setRow hb hg _) (setRow_heap _ _ _ _ _ _ hz)
end Go.Proofs.YtbdbjbmjnemknaaDoor
namespace Go.Proofs.YtbdbjbmjnemknaaDoor
open Go Go.RowKit
set_option maxRecDepth 20000

/-- An entry as it lies in memory. -/
def entV (x : Ent) : Array Value := #[.bool x.dflt, .int .i64 x.prio, .int .u32 x.src, .int .i64 x.srcBits, .int .u32 x.dst, .int .i64 x.dstBits, .int .i64 x.slow, .int .i64 x.shigh, .int .i64 x.dlow, .int .i64 x.dhigh, .int .i64 x.proto, .int .i64 x.action]
def EntE : El := ⟨45, 23, 12, 96, #[.bool false, .int .i64 0, .int .u32 0, .int .i64 0, .int .u32 0, .int .i64 0, .int .i64 0, .int .i64 0, .int .i64 0, .int .i64 0, .int .i64 0, .int .i64 0]⟩
theorem EntOk : EntE.Ok := ⟨Tryd.underlying23, ⟨_, Tryd.underlying45, rfl⟩, by kernel_rfl, rfl, by decide, by decide, by decide⟩
theorem ent_fits (x : Ent) : Fits EntE (entV x) := ⟨rfl, by simp [entV, Value.oneCell']⟩

def mean3_ops : List Oper := [
  { dst := some 11, op := .fieldAddr 55 (.tmp 1) 2, type := 0, pos := "sense.go:57", after := #[], guard := none },
  { dst := some 12, op := .fieldAddr 52 (.tmp 11) 0, type := 0, pos := "sense.go:57", after := #[{ on := 0, ground := .data }], guard := none },
  { dst := some 13, op := .load 3 (.tmp 12), type := 3, pos := "sense.go:57", after := #[{ on := 1, ground := .data }], guard := none },
  { dst := some 14, op := .load 55 (.tmp 1), type := 55, pos := "sense.go:57", after := #[], guard := none },
  { dst := some 15, op := .call { callee := .value (.func 45), args := #[.tmp 14], argTypes := #[55] }, type := 3, pos := "sense.go:57", after := #[{ on := 3, ground := .data }], guard := none },
  { dst := some 16, op := .build 45 #[(1, .tmp 13), (7, .const (.int .i64 65535)), (9, .const (.int .i64 65535)), (10, .const (.int .i64 (-1))), (11, .tmp 15)], type := 45, pos := "sense.go:57", after := #[{ on := 2, ground := .data }, { on := 4, ground := .data }], guard := none },
  { dst := some 3, op := .alloc 45, type := 0, pos := "sense.go:57", after := #[], guard := none },
  { dst := none, op := .store 45 (.tmp 3) (.tmp 16), type := 0, pos := "sense.go:57", after := #[{ on := 6, ground := .data }, { on := 5, ground := .data }, { on := 4, ground := .chain }, { on := 0, ground := .phase }, { on := 1, ground := .phase }, { on := 2, ground := .phase }, { on := 3, ground := .phase }, { on := 4, ground := .phase }, { on := 5, ground := .phase }, { on := 6, ground := .phase }], guard := none }]
def mean3_D : List Nat := [11, 12, 13, 14, 15, 16, 3]
def mean3_V (p B : Nat) (r : Raw) (u : Value) (i : Nat) (v : Value) (w : World) : Prop :=
  match i with
  | 0 => v = .pointer (some ⟨p, 2, none⟩)
  | 1 => v = .pointer (some ⟨p, 2, none⟩)
  | 2 => v = .int .i64 r.prio.n
  | 3 => v = .agg (rawV r u)
  | 4 => v = .int .i64 (actOf r)
  | 5 => v = .agg (entV (ent0 r))
  | 6 => ∃ g, v = .pointer (some ⟨g, 0, none⟩) ∧ B ≤ g ∧ w.heap[g]? = some (.cells EntE.zero EntE.elem (0, 0))
  | _ => True
theorem mean3_mono (p B : Nat) (r : Raw) (u : Value) : ∀ j v w w', mean3_V p B r u j v w → Below w.heap.size w w' → mean3_V p B r u j v w' := by
  intro j v w w' h hb
  revert h
  unfold mean3_V
  split <;> intro h <;> first
    | exact h
    | (obtain ⟨g, h1, h2, h3⟩ := h
       exact ⟨g, h1, h2, (hb.block g (Array.getElem?_eq_some_iff.1 h3).1).trans h3⟩)
theorem run_buildOp {o : Oper} {t : Nat} {ps : Array (Nat × Operand)} (ho : o.op = .build t ps) (a : Act) (W : World) (qs : Array (Nat × Value)) (hq : (ps.map fun (i, x) => (i, a.eval x)) = qs) (v : Value) (h : (Instr.build t qs).run Tryd.prog W = .ok v W) : (execOp a.eval o).run Tryd.prog W = .ok (.value v) W := by
  unfold execOp
  simp only [ho, Sem.run_bind, hq, h, Result.andThen_ok, Sem.run_pure]

set_option maxHeartbeats 4000000 in
theorem mean3_region {id : Nat} {Q : Exit → Act → World → Prop} {a0 : Act} {w0 : World} (hs : 72 ≤ a0.tmps.size) (p : Nat) (r : Raw) (u : Value) (h1 : a0.eval (.tmp 1) = .pointer (some ⟨p, 0, none⟩))
    (hp : w0.heap[p]? = some (.cells (rawV r u) 55 (0, 0))) (hul : ∃ o n m, u = .slice o n m)
    (hK : ∀ y w' g, y 3 = .pointer (some ⟨g, 0, none⟩) → w0.heap.size ≤ g → Below w0.heap.size w0 w' → w'.heap[g]? = some (.cells (entV (ent0 r)) 45 (0, 0)) → Q .normal (putsD mean3_D y a0) w') : (Code.region id mean3_ops.toArray true).wp Tryd.prog Q a0 w0 := by
  have hDs : ∀ d ∈ mean3_D, d < a0.tmps.size := fun d hd => by
    have : d < 72 := by
      revert hd; unfold mean3_D; intro hd
      simp only [List.mem_cons, List.not_mem_nil, or_false] at hd
      omega
    omega
  refine region_inv 7 (mean3_V p w0.heap.size r u) mean3_D (by kernel_rfl) rfl (by kernel_rfl) (by decide) hDs (by kernel_rfl) (by kernel_rfl) (mean3_mono p w0.heap.size r u) ?_ ?_
  · intro i o ho hi a w h
    have B : Below w0.heap.size w0 w := (Below.refl _ _).drew.trans h.below
    have e1 : a.eval (.tmp 1) = .pointer (some ⟨p, 0, none⟩) := (h.other 1 (by decide)).trans h1
    have bp : w.heap[p]? = some (.cells (rawV r u) 55 (0, 0)) := (B.block p (Array.getElem?_eq_some_iff.1 hp).1).trans hp
    have c := raw_f bp
    have ca : ∀ vs W, (callFunc 45 vs).run Tryd.prog W = .ok (.enter 45 vs) W := fun vs W => by have hf := Tryd.func45; simp [go_sem]
    rcases (show i = 0 ∨ i = 1 ∨ i = 2 ∨ i = 3 ∨ i = 4 ∨ i = 5 ∨ i = 6 by omega) with rfl | rfl | rfl | rfl | rfl | rfl | rfl
    · obtain rfl := Option.some.inj ho
      exact iv_val rfl rfl _ (run_fieldOp rfl _ _ _ ((congrArg (fun y => (Instr.fieldAt 55 y 2).run Tryd.prog w) e1).trans (show _ = Result.ok (.pointer (some ⟨p, 2, none⟩)) w by simp [go_sem]))) rfl
    · obtain rfl := Option.some.inj ho
      have f0 : a.eval (.tmp 11) = .pointer (some ⟨p, 2, none⟩) := h.has ⟨0, .data⟩ (by simp) rfl _ 11 rfl rfl
      exact iv_val rfl rfl _ (run_fieldOp rfl _ _ _ ((congrArg (fun y => (Instr.fieldAt 52 y 0).run Tryd.prog w) f0).trans (show _ = Result.ok (.pointer (some ⟨p, 2, none⟩)) w by simp [go_sem]))) rfl
    · obtain rfl := Option.some.inj ho
      have f1 : a.eval (.tmp 12) = .pointer (some ⟨p, 2, none⟩) := h.has ⟨1, .data⟩ (by simp) rfl _ 12 rfl rfl
      exact iv_val rfl rfl _ (run_loadOp rfl _ _ _ _ f1 (load_int _ _ _ c.2.2.1)) rfl
    · obtain rfl := Option.some.inj ho
      exact iv_val rfl rfl _ (run_loadOp rfl _ _ _ _ e1 (load_raw _ _ _ _ bp)) rfl
    · obtain rfl := Option.some.inj ho
      have f1 : a.eval (.tmp 14) = .agg (rawV r u) := h.has ⟨3, .data⟩ (by simp) rfl _ 14 rfl rfl
      exact iv_call rfl rfl 45 #[.agg (rawV r u)] (run_callOps rfl ca _ _ _ (by simp [f1])) ((action7_any r u hul w).mono fun e w' h => ⟨_, h.1, h.2, rfl⟩)
    · obtain rfl := Option.some.inj ho
      have f1 : a.eval (.tmp 13) = .int .i64 r.prio.n := h.has ⟨2, .data⟩ (by simp) rfl _ 13 rfl rfl
      have f2 : a.eval (.tmp 15) = .int .i64 (actOf r) := h.has ⟨4, .data⟩ (by simp) rfl _ 15 rfl rfl
      refine iv_val rfl rfl (.agg (entV (ent0 r))) (run_buildOp rfl _ _ #[(1, .int .i64 r.prio.n), (7, .int .i64 65535), (9, .int .i64 65535), (10, .int .i64 (-1)), (11, .int .i64 (actOf r))] (by simp only [List.map_toArray, List.map_cons, List.map_nil, f1, f2]; rfl) _ ?_) rfl
      kernel_rfl
    · obtain rfl := Option.some.inj ho
      exact iv_alloc EntOk rfl rfl rfl ⟨_, rfl, B.size, heap_new _ _ _ rfl⟩
  · intro a w hb hsz hdf hot hh
    obtain ⟨g, f1, hg, hz⟩ : ∃ g, a.eval (.tmp 3) = .pointer (some ⟨g, 0, none⟩) ∧ w0.heap.size ≤ g ∧ w.heap[g]? = some (.cells EntE.zero EntE.elem (0, 0)) := hh 6 _ 3 (by decide) rfl rfl
    have f2 : a.eval (.tmp 16) = .agg (entV (ent0 r)) := hh 5 _ 16 (by decide) rfl rfl
    refine wpOp_of_list rfl ?_
    refine wl_storeE (E := EntE) EntOk rfl _ _ rfl g (entV (ent0 r)) (ent_fits _) f1 f2 _ hz rfl _ rfl ?_
    show Q .normal a _
    rw [puts_form hsz hdf hot hDs]
    exact hK _ _ g f1 hg (below_setRow hb hg _) (setRow_heap _ _ _ _ _ _ hz)
end Go.Proofs.YtbdbjbmjnemknaaDoor
namespace Go.Proofs.YtbdbjbmjnemknaaDoor
open Go Go.RowKit
set_option maxRecDepth 20000

def placesT : List Int := [0, 32, 32, 32, 64, 16, 80, 16, 96, 8]
def firstOf (f : Int) : Int := placesT.getD (2 * f).toNat 0
def widthOf (f : Int) : Int := placesT.getD (2 * f + 1).toNat 0

/-- The table of the fields lies in memory as the program's text lays it. -/
def Places (w : World) : Prop := ∀ k, k < 10 → w.cell? ⟨0, k, none⟩ = some (.int .i64 (placesT.getD k 0))
theorem Places.later {w w' : World} (h : Places w) {B : Nat} (hB : 0 < B) (hb : Below B w w') : Places w' := fun k hk => by
  rw [hb.cell (p := ⟨0, k, none⟩) hB]; exact h k hk
theorem Places.pos {w : World} (h : Places w) : 0 < w.heap.size := World.block_lt_of_cell? w ⟨0, 0, none⟩ (h 0 (by decide))

set_option maxHeartbeats 400000 in
theorem place_no (f : Int) (w : World) (hf : f < 0 ∨ 5 ≤ f) :
    Calls Tryd.prog 77 #[.int .i64 f] w fun e w' => e = .returned (.tuple #[.int .i64 0, .int .i64 0, .int .i64 1]) ∧ w' = w := by
  by_cases h : f < 0
  · go_enter Tryd.func77, Tryd.ntmps77
    go_wp2
    go_ret3
    exact ⟨rfl, rfl⟩
  · have h5 : 5 ≤ f := by omega
    go_enter Tryd.func77, Tryd.ntmps77
    go_wp2
    go_ret3
    exact ⟨rfl, rfl⟩

set_option maxHeartbeats 400000 in
theorem place_in (f : Int) (w : World) (h0 : 0 ≤ f) (h1 : f < 5) (hP : Places w) :
    Calls Tryd.prog 77 #[.int .i64 f] w fun e w' => e = .returned (.tuple #[.int .i64 (firstOf f), .int .i64 (widthOf f), .int .i64 0]) ∧ Below w.heap.size w w' := by
  have c0 := hP 0 (by decide)
  have c1 := hP 1 (by decide)
  have c2 := hP 2 (by decide)
  have c3 := hP 3 (by decide)
  have c4 := hP 4 (by decide)
  have c5 := hP 5 (by decide)
  have c6 := hP 6 (by decide)
  have c7 := hP 7 (by decide)
  have c8 := hP 8 (by decide)
  have c9 := hP 9 (by decide)
  clear hP
  rcases (show f = 0 ∨ f = 1 ∨ f = 2 ∨ f = 3 ∨ f = 4 by omega) with h | h | h | h | h
  all_goals
    subst h
    go_enter Tryd.func77, Tryd.ntmps77
    go_wp2
    go_quiet (fail)
    go_wp2
    go_ret3
    exact ⟨rfl, below_drewN (Below.refl _ _) _⟩
end Go.Proofs.YtbdbjbmjnemknaaDoor
namespace Go.Proofs.YtbdbjbmjnemknaaDoor
open Go Go.RowKit
set_option maxRecDepth 20000

theorem qlH {W : World} {ops : Array Oper} {Q : Act → Prop} {rest : List Oper} {o : Oper} {a : Act} (hw : Region.wanted o (yielded ops a.tmps) = true) (x : Operand) (ho : o.op = .load 34 x)
    (g : Nat) (hx : a.eval x = .pointer (some ⟨g, 0, none⟩)) (L : List Int) (hg : W.heap[g]? = some (.cells (hv L) 34 (0, 0))) (hL : L.length = 13)
    (h : wpQuiet Tryd.prog ops (fun w' => ∃ u : Later W, w' = u.world) Q rest (a.put o.dst (.agg (hv L)))) : wpQuiet Tryd.prog ops (fun w' => ∃ u : Later W, w' = u.world) Q (o :: rest) a :=
  q_load_row hw 34 x ho g hx 34 (hv L) (0, 0) _ (later_block hg) Tryd.underlying34 rfl (size26 L hL) h
theorem Calls.later_same {P : Program} {f : FuncId} {args : Array Value} {W : World} {u : Later W} {v : Value}
    (h : Calls P f args u.world fun e w' => e = .returned v ∧ w' = u.world) : Calls P f args u.world fun e w'' => e = .returned v ∧ ∃ u' : Later W, w'' = u'.world :=
  h.mono fun _ _ ⟨he, hb⟩ => ⟨he, u, hb⟩


def atOf (f : Int) : Nat := (firstOf f / 8).toNat
def sizeOfF (f : Int) : Nat := (widthOf f / 8).toNat
theorem place_facts (f : Int) (h0 : 0 ≤ f) (h1 : f < 5) : firstOf f = 8 * (atOf f : Int) ∧ widthOf f = 8 * (sizeOfF f : Int) ∧ atOf f + sizeOfF f ≤ 13 ∧ sizeOfF f ≤ 4 ∧ 1 ≤ sizeOfF f := by
  rcases (show f = 0 ∨ f = 1 ∨ f = 2 ∨ f = 3 ∨ f = 4 by omega) with h | h | h | h | h <;> subst h <;> decide
theorem place_at (f : Int) (h0 : 0 ≤ f) (h1 : f < 5) : ∀ W, Places W → Calls Tryd.prog 77 #[.int .i64 f] W fun e w' => e = .returned (.tuple #[.int .i64 (8 * (atOf f : Int)), .int .i64 (8 * (sizeOfF f : Int)), .int .i64 0]) ∧ Below W.heap.size W w' := fun W hP => by
  have h := place_in f W h0 h1 hP
  rw [(place_facts f h0 h1).1, (place_facts f h0 h1).2.1] at h
  exact h
theorem hbit_in (A : List Int) (k j : Nat) (hk : k < 13) (hj : j < 8) : bitB A ((8 * k + j : Nat) : Int) = (A.getD k 0 / 2 ^ (7 - j) % 2 == 1) := by
  unfold bitB byteAt
  rw [decide_eq_true (by omega), Bool.true_and, show (((8 * k + j : Nat) : Int) / 8).toNat = k by omega, show (7 - ((8 * k + j : Nat) : Int) % 8).toNat = 7 - j by omega]
/-- The byte of a number that lies in the header's bytes, and so its bits. -/
theorem getN_byte (L : List Int) (hL : Byt L) (at0 : Nat) : ∀ (s m : Nat), m < s → getN L at0 s / 2 ^ (8 * (s - 1 - m)) % 256 = L.getD (at0 + m) 0
  | 0, _, h => by omega
  | s + 1, m, h => by
    have hb := hL.2 (at0 + s)
    by_cases e : m = s
    · subst e
      simp only [getN, Nat.add_sub_cancel, Nat.sub_self, Nat.mul_zero, Int.pow_zero, Int.ediv_one]
      omega
    · have ih := getN_byte L hL at0 s m (by omega)
      have e1 : 8 * (s + 1 - 1 - m) = 8 + 8 * (s - 1 - m) := by omega
      rw [e1, Int.pow_add, ← Int.ediv_ediv_of_nonneg (by decide)]
      have e2 : getN L at0 (s + 1) / 2 ^ 8 = getN L at0 s := by
        simp only [getN]
        omega
      rw [e2]; exact ih
theorem bit_of_byte (g : Int) (t j : Nat) (hj : j < 8) : g / 2 ^ (8 * t) % 256 / 2 ^ (7 - j) % 2 = g / 2 ^ (8 * t + (7 - j)) % 2 := by
  rw [Int.pow_add, ← Int.ediv_ediv_of_nonneg (Int.pow_nonneg (by decide))]
  generalize g / 2 ^ (8 * t) = y
  rcases (show j = 0 ∨ j = 1 ∨ j = 2 ∨ j = 3 ∨ j = 4 ∨ j = 5 ∨ j = 6 ∨ j = 7 by omega) with e | e | e | e | e | e | e | e <;> subst e <;> simp only [Nat.sub_zero, Nat.sub_self, Nat.reduceSub, Int.reducePow, Int.pow_zero, Int.ediv_one] <;> omega
theorem getN_bit (L : List Int) (hL : Byt L) (at0 size i : Nat) (hs : at0 + size ≤ 13) (hi : i < 8 * size) :
    bitB L ((8 * at0 + i : Nat) : Int) = (getN L at0 size / 2 ^ (8 * size - 1 - i) % 2 == 1) := by
  have e : 8 * at0 + i = 8 * (at0 + i / 8) + i % 8 := by omega
  rw [e, hbit_in L (at0 + i / 8) (i % 8) (by omega) (by omega), ← getN_byte L hL at0 size (i / 8) (by omega), bit_of_byte _ _ _ (by omega), show 8 * (size - 1 - i / 8) + (7 - i % 8) = 8 * size - 1 - i by omega]
theorem getN_half (g : Int) (W i : Nat) (hi : i < W) : g / 2 ^ (W - i) * 2 + g / 2 ^ (W - 1 - i) % 2 = g / 2 ^ (W - 1 - i) := by
  have e : W - i = (W - 1 - i) + 1 := by omega
  rw [e, Int.pow_succ, ← Int.ediv_ediv_of_nonneg (Int.pow_nonneg (by decide))]
  generalize g / 2 ^ (W - 1 - i) = y
  omega
set_option maxHeartbeats 1000000 in
theorem field_core (L : List Int) (hL : Byt L) (f : Int) (at0 size : Nat) (w : World) (hs : at0 + size ≤ 13) (hs4 : size ≤ 4) (hP : Places w)
    (hpl : ∀ W, Places W → Calls Tryd.prog 77 #[.int .i64 f] W fun e w' => e = .returned (.tuple #[.int .i64 (8 * (at0 : Int)), .int .i64 (8 * (size : Int)), .int .i64 0]) ∧ Below W.heap.size W w') :
    Calls Tryd.prog 68 #[.agg (hv L), .int .i64 f] w fun e w' => e = .returned (.tuple #[.int .u32 (getN L at0 size), .int .i64 0]) ∧ Below w.heap.size w w' := by
  have hl := hL.1
  have hp := hP.pos
  have HP : Hid (∀ W, Places W → Calls Tryd.prog 77 #[.int .i64 f] W fun e w' => e = .returned (.tuple #[.int .i64 (8 * (at0 : Int)), .int .i64 (8 * (size : Int)), .int .i64 0]) ∧ Below W.heap.size W w') := hpl
  clear hpl
  go_enter Tryd.func68, Tryd.ntmps68
  go_wp2_with fail
  refine (HP.out _ (hP.later hp ((Below.refl _ _).alloc (Nat.le_refl _) _))).mono ?_
  clear HP
  rintro e w1 ⟨rfl, hb1⟩
  have g1 : w1.heap[w.heap.size]? = some (.cells (hv L) 34 (0, 0)) := by rw [hb1.block _ (by simp)]; exact heap_new _ _ _ rfl
  have hB1 : Below w.heap.size w w1 := ((Below.refl _ _).alloc (Nat.le_refl _) _).trans (hb1.mono (by simp))
  clear hP hb1
  go_wp2_with (refine wl_load26 rfl _ rfl w.heap.size rfl L g1 hl ?_)
  refine (get_any L hL at0 size w1 hs hs4).mono ?_
  rintro e w2 ⟨rfl, rfl⟩
  go_wp2_with fail
  go_ret2
  exact ⟨rfl, hB1.alloc hB1.size _⟩
theorem field_ok (L : List Int) (hL : Byt L) (f : Int) (w : World) (h0 : 0 ≤ f) (h1 : f < 5) (hP : Places w) :
    Calls Tryd.prog 68 #[.agg (hv L), .int .i64 f] w fun e w' => e = .returned (.tuple #[.int .u32 (getN L (atOf f) (sizeOfF f)), .int .i64 0]) ∧ Below w.heap.size w w' := by
  obtain ⟨_, _, a1, a2, _⟩ := place_facts f h0 h1
  exact field_core L hL f (atOf f) (sizeOfF f) w a1 a2 hP (place_at f h0 h1)
end Go.Proofs.YtbdbjbmjnemknaaDoor
namespace Go.Proofs.YtbdbjbmjnemknaaDoor
open Go.ChangeShapes Go.WideShapes Go.ChangeAt Go.WideMaps Go.WideElems Go.RowKit
set_option maxRecDepth 20000

theorem bytes_of {H : Type} {enc : TypeId × Value → H} {W : World} {base : Nat} {spare : Nat → Bool} {held : Bool} {fuel : Nat} {cs : List Value} {x : DataW H × List MemPlace} (hl : cs.length = 13)
    (h : DataW.trod enc Tryd.prog W base spare held fuel 34 cs = some x) : ∃ L : List Int, cs = L.map (Value.int .u8) ∧ Byt L := by
  have c5 : Tryd.prog.cellsOf 5 = 1 := by kernel_rfl
  obtain ⟨xs, m, rfl, hx, hlen, hn, hel⟩ := DataW.trod_array Tryd.underlying34 h
  have each : ∀ i, i < 13 → ∃ z : Int, cs[i]? = some (.int .u8 z) ∧ 0 ≤ z ∧ z < 256 := fun i hi => by
    have h1 := hel i hi
    rw [List.getElem?_eq_getElem (show i < xs.length by omega), c5, Nat.mul_one] at h1
    obtain ⟨z, ez, _, wz⟩ := DataW.trod_int Tryd.underlying5 h1
    refine ⟨z, ?_, ?_⟩
    · have := congrArg (·[0]?) ez
      simpa [List.getElem?_take, List.getElem?_drop] using this
    · have := bounds_u8 wz
      omega
  refine ⟨cs.map intOf, ?_, by simp [hl], fun k => ?_⟩
  · apply List.ext_getElem?
    intro k
    rcases Nat.lt_or_ge k 13 with hk | hk
    · obtain ⟨z, hz, _⟩ := each k hk
      simp only [List.getElem?_map, hz]
      rfl
    · rw [List.getElem?_eq_none (by omega), List.getElem?_eq_none (by simpa [hl] using hk)]
  · rcases Nat.lt_or_ge k 13 with hk | hk
    · obtain ⟨z, hz, hb⟩ := each k hk
      rw [List.getD, List.getElem?_map, hz]
      exact hb
    · rw [List.getD, List.getElem?_eq_none (by simpa [hl] using hk)]
      decide

/-- A header that comes in: thirteen bytes. -/
theorem open_head {H : Type} {enc : TypeId × Value → H} {W : World} {r : Reach} {b0 base : Nat} {spare : Nat → Bool} {held : Bool} {v : Value} {d : DataW H} {p : List MemPlace}
    (hok : Value.okWide Tryd.prog W r b0 34 v) (h : DataW.Trod enc Tryd.prog W base spare held 34 v d p) :
    ∃ L : List Int, v = .agg (hv L) ∧ Byt L := by
  have c : Tryd.prog.cellsOf 34 = 13 := by kernel_rfl
  simp only [Value.okWide, Tryd.underlying34] at hok
  obtain ⟨cs, rfl, hsz, _⟩ := hok
  obtain ⟨fuel, hf⟩ := h
  obtain ⟨L, hL, hb⟩ := bytes_of (by simp only [Value.cells, Array.length_toList]; rw [hsz, c]) hf
  refine ⟨L, ?_, hb⟩
  unfold hv
  rw [← hL]
  simp [Value.cells]


theorem ent_of {H : Type} {enc : TypeId × Value → H} {W : World} {base : Nat} {spare : Nat → Bool} {held : Bool} (fuel : Nat) (cs : List Value) (x : DataW H × List MemPlace) (hl : cs.length = 12)
    (h : DataW.trod enc Tryd.prog W base spare held fuel 45 cs = some x) : ∃ e : Ent, cs = (entV e).toList ∧ ((0 ≤ e.src ∧ e.src < 4294967296) ∧ (0 ≤ e.dst ∧ e.dst < 4294967296)) ∧ (wfN e.prio ∧ wfN e.srcBits ∧ wfN e.dstBits ∧ wfN e.slow ∧ wfN e.shigh ∧ wfN e.dlow ∧ wfN e.dhigh ∧ wfN e.proto ∧ wfN e.action) := by
  have c3 : Tryd.prog.cellsOf 3 = 1 := by kernel_rfl
  have c4 : Tryd.prog.cellsOf 4 = 1 := by kernel_rfl
  have cu : Tryd.prog.cellsOf 43 = 1 := by kernel_rfl
  obtain ⟨xs, n, _, _, _, hxl, hf⟩ := DataW.trod_struct Tryd.underlying45 h
  obtain ⟨b0, h0⟩ := field_bool Tryd.underlying4 c4 (hf 0 _ rfl) (xs_some hxl (by decide))
  obtain ⟨n1, h1, w1⟩ := field_int Tryd.underlying3 c3 (hf 1 _ rfl) (xs_some hxl (by decide))
  obtain ⟨n2, h2, w2⟩ := field_int Tryd.underlying43 cu (hf 2 _ rfl) (xs_some hxl (by decide))
  obtain ⟨n3, h3, w3⟩ := field_int Tryd.underlying3 c3 (hf 3 _ rfl) (xs_some hxl (by decide))
  obtain ⟨n4, h4, w4⟩ := field_int Tryd.underlying43 cu (hf 4 _ rfl) (xs_some hxl (by decide))
  obtain ⟨n5, h5, w5⟩ := field_int Tryd.underlying3 c3 (hf 5 _ rfl) (xs_some hxl (by decide))
  obtain ⟨n6, h6, w6⟩ := field_int Tryd.underlying3 c3 (hf 6 _ rfl) (xs_some hxl (by decide))
  obtain ⟨n7, h7, w7⟩ := field_int Tryd.underlying3 c3 (hf 7 _ rfl) (xs_some hxl (by decide))
  obtain ⟨n8, h8, w8⟩ := field_int Tryd.underlying3 c3 (hf 8 _ rfl) (xs_some hxl (by decide))
  obtain ⟨n9, h9, w9⟩ := field_int Tryd.underlying3 c3 (hf 9 _ rfl) (xs_some hxl (by decide))
  obtain ⟨n10, h10, w10⟩ := field_int Tryd.underlying3 c3 (hf 10 _ rfl) (xs_some hxl (by decide))
  obtain ⟨n11, h11, w11⟩ := field_int Tryd.underlying3 c3 (hf 11 _ rfl) (xs_some hxl (by decide))
  have u2 := bounds_u32 w2
  have u4 := bounds_u32 w4
  refine ⟨⟨b0, n1, n11, n2, n3, n4, n5, n6, n7, n8, n9, n10⟩, ?_, ⟨⟨show 0 ≤ n2 by omega, show n2 < 4294967296 by omega⟩, ⟨show 0 ≤ n4 by omega, show n4 < 4294967296 by omega⟩⟩, w1, w3, w5, w6, w7, w8, w9, w10, w11⟩
  match cs, hl with
  | [a0, a1, a2, a3, a4, a5, a6, a7, a8, a9, a10, a11], _ =>
    obtain rfl : a0 = .bool b0 := by simpa using h0
    obtain rfl : a1 = .int .i64 n1 := by simpa using h1
    obtain rfl : a2 = .int .u32 n2 := by simpa using h2
    obtain rfl : a3 = .int .i64 n3 := by simpa using h3
    obtain rfl : a4 = .int .u32 n4 := by simpa using h4
    obtain rfl : a5 = .int .i64 n5 := by simpa using h5
    obtain rfl : a6 = .int .i64 n6 := by simpa using h6
    obtain rfl : a7 = .int .i64 n7 := by simpa using h7
    obtain rfl : a8 = .int .i64 n8 := by simpa using h8
    obtain rfl : a9 = .int .i64 n9 := by simpa using h9
    obtain rfl : a10 = .int .i64 n10 := by simpa using h10
    obtain rfl : a11 = .int .i64 n11 := by simpa using h11
    rfl
/-- Numbers of an entry that comes in. -/
def wfE (e : Ent) : Prop := wfN e.prio ∧ wfN e.srcBits ∧ wfN e.dstBits ∧ wfN e.slow ∧ wfN e.shigh ∧ wfN e.dlow ∧ wfN e.dhigh ∧ wfN e.proto ∧ wfN e.action
theorem open_entry {H : Type} {enc : TypeId × Value → H} {W : World} {r : Reach} {b0 base : Nat} {spare : Nat → Bool} {held : Bool} {v : Value} {d : DataW H} {p : List MemPlace}
    (hok : Value.okWide Tryd.prog W r b0 45 v) (h : DataW.Trod enc Tryd.prog W base spare held 45 v d p) :
    ∃ e : Ent, v = .agg (entV e) ∧ ((0 ≤ e.src ∧ e.src < 4294967296) ∧ (0 ≤ e.dst ∧ e.dst < 4294967296)) ∧ wfE e := by
  have c : Tryd.prog.cellsOf 45 = 12 := by kernel_rfl
  simp only [Value.okWide, Tryd.underlying45] at hok
  obtain ⟨cs, rfl, hsz, _⟩ := hok
  obtain ⟨fuel, hf⟩ := h
  obtain ⟨e, he, h1, h2⟩ := ent_of fuel _ _ (by simp only [Value.cells, Array.length_toList]; rw [hsz, c]) hf
  refine ⟨e, ?_, h1, h2⟩
  congr 1
  simp only [Value.cells] at he
  exact Array.ext' he
/-- Entries that come in. -/
theorem open_ents {H : Type} {enc : TypeId × Value → H} {W : World} {r : Reach} {b0 base : Nat} {spare : Nat → Bool} {held : Bool} {v : Value} {d : DataW H} {p : List MemPlace}
    (hok : Value.okWide Tryd.prog W r b0 23 v) (h : DataW.Trod enc Tryd.prog W base spare held 23 v d p) :
    ∃ l, GSl EntE entV W v l ∧ ∀ e ∈ l, ((0 ≤ e.src ∧ e.src < 4294967296) ∧ (0 ≤ e.dst ∧ e.dst < 4294967296)) ∧ wfE e := by
  obtain ⟨fuel, hf⟩ := h
  have hv1 : v.cells.toList = [v] := by
    simp only [Value.okWide, Cell.okWide, Cell.ok, Tryd.underlying23] at hok
    cases v <;> simp_all [Value.cells]
  rw [hv1] at hf
  have hin : Inhabited Ent := ⟨⟨false, 0, 0, 0, 0, 0, 0, 0, 0, 0, 0, 0⟩⟩
  exact open_any (E := EntE) EntOk entV (fun _ => rfl) (fun e => ((0 ≤ e.src ∧ e.src < 4294967296) ∧ (0 ≤ e.dst ∧ e.dst < 4294967296)) ∧ wfE e) (fun fuel cs x h1 h2 => ent_of fuel cs x h1 h2) hf

theorem pairs_of {H : Type} {enc : TypeId × Value → H} {W : World} {base : Nat} {spare : Nat → Bool} {held : Bool} {fuel n : Nat} {t s : TypeId} {f0 f1 : Field} {cs : List Value} {zs : List (Int × Int)} {ps : List MemPlace}
    (ht : Tryd.prog.underlying t = some (.array n s)) (hs : Tryd.prog.underlying s = some (.struct #[f0, f1])) (c2 : Tryd.prog.cellsOf s = 2) (e0 : f0.type = 3) (e1 : f1.type = 3) (o0 : f0.offset = 0) (o1 : f1.offset = 1)
    (h : DataW.trod enc Tryd.prog W base spare held fuel t cs = some (.agg (zs.map fun z => .agg [.lit (.int .i64 z.1), .lit (.int .i64 z.2)]), ps)) (i : Nat) (hi : i < n) :
    ∃ z, zs[i]? = some z ∧ cs[2 * i]? = some (.int .i64 z.1) ∧ cs[2 * i + 1]? = some (.int .i64 z.2) := by
  have c3 : Tryd.prog.cellsOf 3 = 1 := by kernel_rfl
  obtain ⟨xs, m, rfl, hx, hlen, hn, hel⟩ := DataW.trod_array ht h
  have hi' : i < xs.length := by omega
  have h1 := hel i hi
  rw [List.getElem?_eq_getElem hi', c2] at h1
  obtain ⟨y0, y1, k, hy, _, t0, t1⟩ := trod_struct2 hs h1
  rw [e0, c3, o0] at t0
  rw [e1, c3, o1] at t1
  obtain ⟨a, ca, rfl, _⟩ := DataW.trod_int Tryd.underlying3 t0
  obtain ⟨b, cb, rfl, _⟩ := DataW.trod_int Tryd.underlying3 t1
  simp only [Prod.mk.injEq, DataW.agg.injEq] at hx
  have hm : (zs.map fun z => (DataW.agg [.lit (.int .i64 z.1), .lit (.int .i64 z.2)] : DataW H))[i]? = (xs.map (·.1))[i]? := by rw [hx.1]
  rw [List.getElem?_map, List.getElem?_map, List.getElem?_eq_getElem hi', hy] at hm
  simp only [Option.map_some, Option.map_eq_some_iff, DataW.agg.injEq, List.cons.injEq, DataW.lit.injEq, Lit.int.injEq, true_and, and_true] at hm
  obtain ⟨z, hz, za, zb⟩ := hm
  have ga : cs[2 * i]? = some (.int .i64 a) := by
    have := congrArg (·[0]?) ca
    simpa [List.getElem?_take, List.getElem?_drop, Nat.mul_comm] using this
  have gb : cs[2 * i + 1]? = some (.int .i64 b) := by
    have := congrArg (·[0]?) cb
    simpa [List.getElem?_take, List.getElem?_drop, Nat.mul_comm] using this
  exact ⟨z, hz, by rw [za]; exact ga, by rw [zb]; exact gb⟩


abbrev laid1 : List (String × DataW Unit) := [("milepost/head.places", Rows.laid_milepost_head_places)]
theorem of_laid1 {W : World} (h : laidMetH Tryd.prog laid1 W) : Places W := by
  rw [MakeChecks.laidMetH_plain _ _ _ (by kernel_rfl)] at h
  obtain ⟨ps, ⟨g3, t3, cs3, f3, p3, q3, hg3, ht3, hv3, hd3, _, _⟩, _, _⟩ := h
  obtain rfl := Option.some.inj ((show Tryd.prog.globalNamed "milepost/head.places" = some 0 by kernel_rfl).symm.trans hg3)
  obtain rfl := Option.some.inj ((show (Tryd.prog.globals[0]?).map (·.type) = some 141 by kernel_rfl).symm.trans ht3)
  intro k hk
  rw [World.var?_cell hg3 hv3 k]
  obtain ⟨z, hz, h0, h1⟩ := pairs_of (zs := [(0, 32), (32, 32), (64, 16), (80, 16), (96, 8)]) Tryd.underlying141 Tryd.underlying140 (by kernel_rfl) rfl rfl rfl rfl hd3 (k / 2) (by omega)
  rw [← Array.getElem?_toList]
  rcases (show k = 0 ∨ k = 1 ∨ k = 2 ∨ k = 3 ∨ k = 4 ∨ k = 5 ∨ k = 6 ∨ k = 7 ∨ k = 8 ∨ k = 9 by omega) with h | h | h | h | h | h | h | h | h | h <;> subst h <;> simp at hz <;> subst hz <;> first | exact h0 | exact h1
abbrev laid4 : List (String × DataW Unit) := [("math/bits.deBruijn32tab", Rows.laid_math_bits_deBruijn32tab), ("math/bits.deBruijn64tab", Rows.laid_math_bits_deBruijn64tab), ("internal/strconv.uint64pow10", Rows.laid_internal_strconv_uint64pow10), ("milepost/head.places", Rows.laid_milepost_head_places)]
theorem of_laid4 {W : World} (h : laidMetH Tryd.prog laid4 W) : Lib.TabIs Tryd.prog W "internal/strconv.uint64pow10" .u64 Lib.pow10Tab ∧ Places W := by
  rw [MakeChecks.laidMetH_plain _ _ _ (by kernel_rfl)] at h
  obtain ⟨ps, ⟨g1, t1, cs1, f1, p1, q1, _, _, _, _, ⟨g2, t2, cs2, f2, p2, q2, _, _, _, _, ⟨g3, t3, cs3, f3, p3, q3, hg3, ht3, hv3, hd3, ⟨g4, t4, cs4, f4, p4, q4, hg4, ht4, hv4, hd4, _, _⟩, _⟩, _⟩, _⟩, _, _⟩ := h
  refine ⟨?_, ?_⟩
  · obtain rfl := Option.some.inj ((show Tryd.prog.globalNamed "internal/strconv.uint64pow10" = some 2 by kernel_rfl).symm.trans hg3)
    obtain rfl := Option.some.inj ((show (Tryd.prog.globals[2]?).map (·.type) = some 149 by kernel_rfl).symm.trans ht3)
    unfold Lib.TabIs
    rw [hv3, ← Lib.cells_of_tab (zs := Lib.pow10Tab) (k := .u64) (show Tryd.prog.underlying 149 = some (.array 20 137) by kernel_rfl) (show Tryd.prog.underlying 137 = some (.int .u64) by kernel_rfl) (by kernel_rfl) (by kernel_rfl) hd3]
  · obtain rfl := Option.some.inj ((show Tryd.prog.globalNamed "milepost/head.places" = some 0 by kernel_rfl).symm.trans hg4)
    obtain rfl := Option.some.inj ((show (Tryd.prog.globals[0]?).map (·.type) = some 141 by kernel_rfl).symm.trans ht4)
    intro k hk
    rw [World.var?_cell hg4 hv4 k]
    obtain ⟨z, hz, h0, h1⟩ := pairs_of (zs := [(0, 32), (32, 32), (64, 16), (80, 16), (96, 8)]) Tryd.underlying141 Tryd.underlying140 (by kernel_rfl) rfl rfl rfl rfl hd4 (k / 2) (by omega)
    rw [← Array.getElem?_toList]
    rcases (show k = 0 ∨ k = 1 ∨ k = 2 ∨ k = 3 ∨ k = 4 ∨ k = 5 ∨ k = 6 ∨ k = 7 ∨ k = 8 ∨ k = 9 by omega) with h | h | h | h | h | h | h | h | h | h <;> subst h <;> simp at hz <;> subst hz <;> first | exact h0 | exact h1
end Go.Proofs.YtbdbjbmjnemknaaDoor
namespace Go.Proofs.YtbdbjbmjnemknaaDoor
open Go Go.RowKit
set_option maxRecDepth 20000

theorem addr_facts {c : Cla} (h : goodC c) (hw : isAddrW c.word = true) (hp : isPortW c.word = false) (ho : (c.word == wProto) = false) : (c.nums.length = if c.slash then 5 else 4) ∧ ∀ k, k < 4 → 0 ≤ nth c k ∧ nth c k ≤ 255 := by
  have hm : mustN c = if c.slash then 5 else 4 := by unfold mustN; rw [if_pos hw]
  refine ⟨by rw [h.2.1, hm], fun k hk => ?_⟩
  have := nth_in h (k := k) (by rw [hm]; split <;> omega)
  have e : mostN c.word k = 255 := by
    unfold mostN
    rw [hp, ho, if_neg (by decide), if_neg]
    simp only [Bool.and_eq_true, beq_iff_eq]
    omega
  rw [e] at this
  exact ⟨this.1, this.2.1⟩
theorem good_pos {c : Cla} (h : goodC c) : 0 < c.nums.length := by
  have := h.1
  rw [h.2.1]
  omega
/-- The meaning of a line's first clauses. -/
def meanK (x : Raw) (k : Nat) : Ent := (x.clauses.take k).foldl setC (ent0 x)
theorem meanK_next {x : Raw} {k : Nat} {c : Cla} (h : x.clauses[k]? = some c) : meanK x (k + 1) = setC (meanK x k) c := by
  obtain ⟨hk, rfl⟩ := List.getElem?_eq_some_iff.1 h
  unfold meanK
  rw [List.take_succ_eq_append_getElem hk, List.foldl_append]
  rfl
theorem setC_src {x : Ent} {c : Cla} (h : c.word = wSrc) : entV (setC x c) = ((entV x).setIfInBounds 2 (.int .u32 (preC c).1)).setIfInBounds 3 (.int .i64 (preC c).2) := by
  unfold setC; rw [if_pos h]; rfl
theorem setC_dst {x : Ent} {c : Cla} (h : c.word = wDst) : entV (setC x c) = ((entV x).setIfInBounds 4 (.int .u32 (preC c).1)).setIfInBounds 5 (.int .i64 (preC c).2) := by
  unfold setC; rw [if_neg (by rw [h]; decide), if_pos h]; rfl
theorem setC_sport {x : Ent} {c : Cla} (h : c.word = wSport) : entV (setC x c) = ((entV x).setIfInBounds 6 (.int .i64 (porC c).1)).setIfInBounds 7 (.int .i64 (porC c).2) := by
  unfold setC; rw [if_neg (by rw [h]; decide), if_neg (by rw [h]; decide), if_pos h]; rfl
theorem setC_dport {x : Ent} {c : Cla} (h : c.word = wDport) : entV (setC x c) = ((entV x).setIfInBounds 8 (.int .i64 (porC c).1)).setIfInBounds 9 (.int .i64 (porC c).2) := by
  unfold setC; rw [if_neg (by rw [h]; decide), if_neg (by rw [h]; decide), if_neg (by rw [h]; decide), if_pos h]; rfl
theorem setC_proto {x : Ent} {c : Cla} (h : c.word = wProto) : entV (setC x c) = (entV x).setIfInBounds 10 (.int .i64 (nth c 0)) := by
  unfold setC; rw [if_neg (by rw [h]; decide), if_neg (by rw [h]; decide), if_neg (by rw [h]; decide), if_neg (by rw [h]; decide), if_pos h]; rfl
theorem tc_cell {w : World} {g k : Nat} {cs : Array Value} {t : TypeId} {fr : Nat × Nat} (h : w.heap[g]? = some (.cells cs t fr)) (hf : fr = (0, 0)) (i : Nat) (v : Value) (j : Nat) (hj : k ≠ j) (y : Value) (hy : cs[j]? = some y) : (w.setCell ⟨g, k, none⟩ v).cell? ⟨g, j, none⟩ = some y ∧ (w.setCell ⟨g, k, none⟩ v).frozen? ⟨g, i, none⟩ = false := by
  refine ⟨?_, tc_frozen (tc_row h v) hf⟩
  rw [cell_of_row _ _ _ _ _ _ (tc_row h v), Array.getElem?_setIfInBounds_ne hj]
  exact hy
theorem good_word {c : Cla} (h : goodC c) : c.word = wSrc ∨ c.word = wDst ∨ c.word = wSport ∨ c.word = wDport ∨ c.word = wProto := by
  rcases word_cases c.word with h1 | h1 | h1 | h1 | h1 | ⟨e0, e1, e2, e3, e4⟩
  · exact .inl h1
  · exact .inr (.inl h1)
  · exact .inr (.inr (.inl h1))
  · exact .inr (.inr (.inr (.inl h1)))
  · exact .inr (.inr (.inr (.inr h1)))
  · exfalso
    refine h.1 ?_
    unfold mustN isAddrW isPortW wSrc wDst wSport wDport wProto
    simp only [e0, e1, e2, e3, e4]
    rfl

set_option maxHeartbeats 16000000 in
set_option maxRecDepth 100000 in
theorem meaning_any (x : Raw) (u : Value) (w : World) (hu : ClasAt w x u) (hr : x.dflt = false → faultR x = .ok ()) :
    Calls Tryd.prog 27 #[.agg (rawV x u)] w fun e w' => e = .returned (.agg (entV (meaning x))) ∧ Below w.heap.size w w' := by
  have PF : Hid (∀ (c : Cla) (u : Value) W, FigsAt W c u → goodC c → isAddrW c.word = true → isPortW c.word = false → (c.word == wProto) = false → Calls Tryd.prog 46 #[.agg (claV c u)] W fun x w' => x = .returned (.tuple #[.int .u32 (preC c).1, .int .i64 (preC c).2]) ∧ Below W.heap.size W w') := fun c u W h1 h2 h3 h4 h5 => prefix_any c u W h1 (addr_facts h2 h3 h4 h5).1 (addr_facts h2 h3 h4 h5).2
  have PO : Hid (∀ (c : Cla) (u : Value) W, FigsAt W c u → goodC c → Calls Tryd.prog 47 #[.agg (claV c u)] W fun x w' => x = .returned (.tuple #[.int .i64 (porC c).1, .int .i64 (porC c).2]) ∧ Below W.heap.size W w') := fun c u W h1 h2 => ports7_any c u W h1 (good_pos h2)
  obtain ⟨o, cap, rfl, hc1, hc2⟩ := NSl.slice hu
  have AC : Hid (∀ W, Calls Tryd.prog 45 #[.agg (rawV x (.slice o x.clauses.length cap))] W fun e w' => e = .returned (.int .i64 (actOf x)) ∧ Below W.heap.size W w') := fun W => action7_any x _ ⟨_, _, _, rfl⟩ W
  obtain ⟨n, hn⟩ : ∃ n, n = x.clauses.length := ⟨_, rfl⟩
  have HN : Hid (n = x.clauses.length) := hn
  rw [← hn] at hu hc1 AC ⊢
  have HU : Hid (ClasAt w x (.slice o n cap)) := hu
  unfold maxLen at hc2
  have b1 : Hid (((w.alloc (.cells (rawV x (.slice o n cap)) 55)).alloc (.cells EntE.zero 45)).heap[w.heap.size]? = some (.cells (rawV x (.slice o n cap)) 55 (0, 0))) := heap_past _ _ _ _ (heap_new _ _ _ rfl)
  have b2 : Hid (((w.alloc (.cells (rawV x (.slice o n cap)) 55)).alloc (.cells EntE.zero 45)).heap[w.heap.size + 1]? = some (.cells EntE.zero 45 (0, 0))) := heap_new _ _ _ (by simp)
  have B0 : Hid (Below w.heap.size w ((w.alloc (.cells (rawV x (.slice o n cap)) 55)).alloc (.cells EntE.zero 45))) := below2 _ _ _
  have c1 := (raw_f b1.out).2.1
  unfold EntE at c1
  simp only at c1
  clear hu hn
  cases hd : x.dflt with
  | true =>
    have hm : entV (meaning x) = #[.bool true, .int .i64 0, .int .u32 0, .int .i64 0, .int .u32 0, .int .i64 0, .int .i64 0, .int .i64 0, .int .i64 0, .int .i64 0, .int .i64 0, .int .i64 (actOf x)] := by unfold meaning; rw [hd]; rfl
    rw [hm]
    rw [hd] at c1
    clear hm
    go_enter Tryd.func27, Tryd.ntmps27
    go_wp2_with (first
      | (refine wl_loadE (E := RawE) RawOk rfl _ rfl w.heap.size 0 rfl _ _ _ (rawV x (.slice o n cap)) rfl b1.out (own_cells _ _) ?_))
    refine (AC.out _).mono ?_
    rintro e w1 ⟨rfl, hb1⟩
    have k2 : Hid (w1.heap[w.heap.size + 1]? = some (.cells EntE.zero 45 (0, 0))) := (hb1.block _ (by simp)).trans b2.out
    have B1 : Hid (Below w.heap.size w w1) := B0.out.trans (hb1.mono (by simp; omega))
    clear hb1
    go_wp2_with (first
      | (refine wl_storeE (E := EntE) EntOk rfl _ _ rfl (w.heap.size + 1) #[.bool true, .int .i64 0, .int .u32 0, .int .i64 0, .int .u32 0, .int .i64 0, .int .i64 0, .int .i64 0, .int .i64 0, .int .i64 0, .int .i64 0, .int .i64 (actOf x)] ⟨rfl, by simp [Value.oneCell']⟩ rfl rfl _ k2.out rfl _ rfl ?_))
    refine retE (E := EntE) EntOk rfl rfl (w.heap.size + 1) rfl _ rfl (setRow_heap _ _ _ _ _ _ k2.out) ?_
    exact ⟨rfl, below_setRow B1.out (by omega) _⟩
  | false =>
    have hf := hr hd
    have hcs : faultCs [] x.clauses = .ok () := by
      unfold faultR at hf
      split at hf
      · cases hf
      · exact hf
    have GD : Hid (∀ c ∈ x.clauses, goodC c) := faultCs_in _ _ hcs
    have HM : Hid (meanK x n = meaning x) := by
      show _ = _
      unfold meanK
      rw [HN.out, List.take_length]
      exact mean_fold x hd hf
    have HD : Hid (x.dflt = false) := hd
    rw [hd] at c1
    clear hf hcs hd hr
    go_enter Tryd.func27, Tryd.ntmps27
    go_wp2_with fail
    refine mean3_region (by simp) w.heap.size x (.slice o n cap) rfl b1.out ⟨_, _, _, rfl⟩ ?_
    intro y w1 G hy hG hb1 hg1
    simp only [putsD, mean3_D, List.foldl_cons, List.foldl_nil, hy, Act.put, List.setIfInBounds_toArray, List.set_cons_succ, List.set_cons_zero]
    have hG' : w.heap.size + 1 < G := by simp at hG; omega
    have K0 : Hid (w1.heap[G]? = some (.cells (entV (meanK x 0)) 45 (0, 0))) := hg1
    have K1 : Hid (w1.heap[w.heap.size]? = some (.cells (rawV x (.slice o n cap)) 55 (0, 0))) := (hb1.block _ (by simp; omega)).trans b1.out
    have K2 : Hid (w1.heap[w.heap.size + 1]? = some (.cells EntE.zero 45 (0, 0))) := (hb1.block _ (by simp)).trans b2.out
    have B1 : Hid (Below w.heap.size w w1) := B0.out.trans (hb1.mono (by simp; omega))
    have c4 := (raw_f K1.out).2.2.2.1
    clear hb1 hg1 hG hy b1 b2 B0 c1
    go_wp2_with fail
    clear c4
    go_loopw [20] (fun i wr => ∃ k : Nat, k ≤ n ∧ i = .int .i64 (k : Int) ∧ wr.heap[G]? = some (.cells (entV (meanK x k)) 45 (0, 0)) ∧ wr.heap[w.heap.size + 1]? = some (.cells EntE.zero 45 (0, 0)) ∧ Below w.heap.size w wr) (fun i _ => n - (intOf i).toNat)
    case atStart => exact ⟨0, Nat.zero_le _, rfl, K0.out, K2.out, B1.out⟩
    case round =>
      clear K0 K1 K2 B1
      obtain ⟨k, hk, rfl, hr0, hr2, hb⟩ := hrel
      have R0 : Hid (wr.heap[G]? = some (.cells (entV (meanK x k)) 45 (0, 0))) := hr0
      have R2 : Hid (wr.heap[w.heap.size + 1]? = some (.cells EntE.zero 45 (0, 0))) := hr2
      have HB : Hid (Below w.heap.size w wr) := hb
      clear hr0 hr2 hb
      by_cases hlt : k < n
      · have hlt' : (k : Int) < (n : Int) := by omega
        obtain ⟨g, off, cur, ty, fr, c, u', rfl, hg, hc, hCk, hcl⟩ := NSl.at (NSl.below figs_below HU.out HB.out) k hlt
        have hgood := GD.out c (List.mem_of_getElem? hCk)
        have HG0 : Hid (goodC c) := hgood
        have HX : Hid (meanK x (k + 1) = setC (meanK x k) c) := meanK_next hCk
        have K1 : Hid (wr.heap[g]? = some (.cells cur ty fr)) := hg
        have H1 : Hid (∀ i, i < 5 → cur[off + k * 5 + i]? = (claV c u')[i]?) := hc
        have HF : Hid (FigsAt wr c u') := hcl
        have hGr : G < wr.heap.size := (Array.getElem?_eq_some_iff.1 R0.out).1
        obtain ⟨o1, cap1, rfl, hca1, hcb1⟩ := GSl.slice hcl
        obtain ⟨n1, hn1⟩ : ∃ n1, n1 = c.nums.length := ⟨_, rfl⟩
        rw [← hn1] at H1 HF hca1
        have hn0 : 0 < n1 := by rw [hn1]; exact good_pos hgood
        have HN1 : Hid (n1 = c.nums.length) := hn1
        unfold maxLen at hcb1
        have KN : Hid ((wr.alloc (.cells (claV c (.slice o1 n1 cap1)) 76)).heap[wr.heap.size]? = some (.cells (claV c (.slice o1 n1 cap1)) 76 (0, 0))) := heap_new _ _ _ rfl
        have n0 := (cla_f KN.out).1
        have BN : Hid (Below wr.heap.size wr (wr.alloc (.cells (claV c (.slice o1 n1 cap1)) 76))) := (Below.refl _ _).alloc (Nat.le_refl _) _
        have hw := good_word hgood
        clear hg hc hCk hcl hgood hn1
        rcases hw with hw | hw | hw | hw | hw
        · have HW : Hid (c.word = wSrc) := hw
          rw [hw] at n0
          have HS : Hid (entV (meanK x (k + 1)) = ((entV (meanK x k)).setIfInBounds 2 (.int .u32 (preC c).1)).setIfInBounds 3 (.int .i64 (preC c).2)) := by show _ = _; rw [HX.out]; exact setC_src hw
          clear hw
          unfold wSrc at n0
          go_wp2_with (first
          | (refine wl_loadE (E := ClaE) ClaOk rfl _ rfl g (off + k * 5) rfl cur ty fr (claV c (.slice o1 n1 cap1)) rfl K1.out H1.out ?_)
          | (refine wl_storeE (E := ClaE) ClaOk rfl _ _ rfl wr.heap.size (claV c (.slice o1 n1 cap1)) ⟨rfl, by simp [claV, Value.oneCell']⟩ rfl rfl _ (heap_new _ _ _ rfl) rfl _ (setRow_new _ _ _ _ _ rfl) ?_)
            | (refine wl_loadE (E := ClaE) ClaOk rfl _ rfl wr.heap.size 0 rfl _ _ _ (claV c (.slice o1 n1 cap1)) rfl KN.out (own_cells _ _) ?_))
          refine (PF.out c _ _ (figs_below _ _ _ _ BN.out HF.out) HG0.out (by rw [HW.out]; decide) (by rw [HW.out]; decide) (by rw [HW.out]; decide)).mono ?_
          rintro e w2 ⟨rfl, hb2⟩
          have B2 : Hid (Below wr.heap.size wr w2) := BN.out.trans (hb2.mono BN.out.size)
          have g2 : w2.heap[G]? = some (.cells (entV (meanK x k)) 45 (0, 0)) := (B2.out.block G hGr).trans R0.out
          have q1 : w2.cell? ⟨G, 2, none⟩ = some (.int .u32 (meanK x k).src) := by rw [cell_of_row _ _ _ _ _ _ g2]; rfl
          have z1 : w2.frozen? ⟨G, 2, none⟩ = false := tc_frozen g2 rfl
          obtain ⟨q2, z2⟩ := tc_cell (k := 2) g2 rfl 3 (.int .u32 (preC c).1) 3 (by decide) (.int .i64 (meanK x k).srcBits) rfl
          have G3 : Hid (((w2.setCell ⟨G, 2, none⟩ (.int .u32 (preC c).1)).setCell ⟨G, 3, none⟩ (.int .i64 (preC c).2)).heap[G]? = some (.cells (entV (meanK x (k + 1))) 45 (0, 0))) := by show _ = _; rw [HS.out]; exact tc_row (tc_row g2 _) _
          have R3 : Hid (((w2.setCell ⟨G, 2, none⟩ (.int .u32 (preC c).1)).setCell ⟨G, 3, none⟩ (.int .i64 (preC c).2)).heap[w.heap.size + 1]? = some (.cells EntE.zero 45 (0, 0))) := (tc_far (by omega) _).trans ((tc_far (by omega) _).trans ((B2.out.block _ (by omega)).trans R2.out))
          have B3 : Hid (Below w.heap.size w ((w2.setCell ⟨G, 2, none⟩ (.int .u32 (preC c).1)).setCell ⟨G, 3, none⟩ (.int .i64 (preC c).2))) := tc_below (tc_below (HB.out.trans (B2.out.mono HB.out.size)) (by omega) _ _) (by omega) _ _
          clear hb2 g2 n0
          go_wp2_with fail
          go_roundw
          case rel => exact ⟨k + 1, by omega, by go_num, G3.out, R3.out, B3.out⟩
          case measure => simp [intOf]; omega
        · have HW : Hid (c.word = wDst) := hw
          rw [hw] at n0
          have HS : Hid (entV (meanK x (k + 1)) = ((entV (meanK x k)).setIfInBounds 4 (.int .u32 (preC c).1)).setIfInBounds 5 (.int .i64 (preC c).2)) := by show _ = _; rw [HX.out]; exact setC_dst hw
          clear hw
          unfold wDst at n0
          go_wp2_with (first
          | (refine wl_loadE (E := ClaE) ClaOk rfl _ rfl g (off + k * 5) rfl cur ty fr (claV c (.slice o1 n1 cap1)) rfl K1.out H1.out ?_)
          | (refine wl_storeE (E := ClaE) ClaOk rfl _ _ rfl wr.heap.size (claV c (.slice o1 n1 cap1)) ⟨rfl, by simp [claV, Value.oneCell']⟩ rfl rfl _ (heap_new _ _ _ rfl) rfl _ (setRow_new _ _ _ _ _ rfl) ?_)
            | (refine wl_loadE (E := ClaE) ClaOk rfl _ rfl wr.heap.size 0 rfl _ _ _ (claV c (.slice o1 n1 cap1)) rfl KN.out (own_cells _ _) ?_))
          refine (PF.out c _ _ (figs_below _ _ _ _ BN.out HF.out) HG0.out (by rw [HW.out]; decide) (by rw [HW.out]; decide) (by rw [HW.out]; decide)).mono ?_
          rintro e w2 ⟨rfl, hb2⟩
          have B2 : Hid (Below wr.heap.size wr w2) := BN.out.trans (hb2.mono BN.out.size)
          have g2 : w2.heap[G]? = some (.cells (entV (meanK x k)) 45 (0, 0)) := (B2.out.block G hGr).trans R0.out
          have q1 : w2.cell? ⟨G, 4, none⟩ = some (.int .u32 (meanK x k).dst) := by rw [cell_of_row _ _ _ _ _ _ g2]; rfl
          have z1 : w2.frozen? ⟨G, 4, none⟩ = false := tc_frozen g2 rfl
          obtain ⟨q2, z2⟩ := tc_cell (k := 4) g2 rfl 5 (.int .u32 (preC c).1) 5 (by decide) (.int .i64 (meanK x k).dstBits) rfl
          have G3 : Hid (((w2.setCell ⟨G, 4, none⟩ (.int .u32 (preC c).1)).setCell ⟨G, 5, none⟩ (.int .i64 (preC c).2)).heap[G]? = some (.cells (entV (meanK x (k + 1))) 45 (0, 0))) := by show _ = _; rw [HS.out]; exact tc_row (tc_row g2 _) _
          have R3 : Hid (((w2.setCell ⟨G, 4, none⟩ (.int .u32 (preC c).1)).setCell ⟨G, 5, none⟩ (.int .i64 (preC c).2)).heap[w.heap.size + 1]? = some (.cells EntE.zero 45 (0, 0))) := (tc_far (by omega) _).trans ((tc_far (by omega) _).trans ((B2.out.block _ (by omega)).trans R2.out))
          have B3 : Hid (Below w.heap.size w ((w2.setCell ⟨G, 4, none⟩ (.int .u32 (preC c).1)).setCell ⟨G, 5, none⟩ (.int .i64 (preC c).2))) := tc_below (tc_below (HB.out.trans (B2.out.mono HB.out.size)) (by omega) _ _) (by omega) _ _
          clear hb2 g2 n0
          go_wp2_with fail
          go_roundw
          case rel => exact ⟨k + 1, by omega, by go_num, G3.out, R3.out, B3.out⟩
          case measure => simp [intOf]; omega
        · have HW : Hid (c.word = wSport) := hw
          rw [hw] at n0
          have HS : Hid (entV (meanK x (k + 1)) = ((entV (meanK x k)).setIfInBounds 6 (.int .i64 (porC c).1)).setIfInBounds 7 (.int .i64 (porC c).2)) := by show _ = _; rw [HX.out]; exact setC_sport hw
          clear hw
          unfold wSport at n0
          go_wp2_with (first
          | (refine wl_loadE (E := ClaE) ClaOk rfl _ rfl g (off + k * 5) rfl cur ty fr (claV c (.slice o1 n1 cap1)) rfl K1.out H1.out ?_)
          | (refine wl_storeE (E := ClaE) ClaOk rfl _ _ rfl wr.heap.size (claV c (.slice o1 n1 cap1)) ⟨rfl, by simp [claV, Value.oneCell']⟩ rfl rfl _ (heap_new _ _ _ rfl) rfl _ (setRow_new _ _ _ _ _ rfl) ?_)
            | (refine wl_loadE (E := ClaE) ClaOk rfl _ rfl wr.heap.size 0 rfl _ _ _ (claV c (.slice o1 n1 cap1)) rfl KN.out (own_cells _ _) ?_))
          refine (PO.out c _ _ (figs_below _ _ _ _ BN.out HF.out) HG0.out).mono ?_
          rintro e w2 ⟨rfl, hb2⟩
          have B2 : Hid (Below wr.heap.size wr w2) := BN.out.trans (hb2.mono BN.out.size)
          have g2 : w2.heap[G]? = some (.cells (entV (meanK x k)) 45 (0, 0)) := (B2.out.block G hGr).trans R0.out
          have q1 : w2.cell? ⟨G, 6, none⟩ = some (.int .i64 (meanK x k).slow) := by rw [cell_of_row _ _ _ _ _ _ g2]; rfl
          have z1 : w2.frozen? ⟨G, 6, none⟩ = false := tc_frozen g2 rfl
          obtain ⟨q2, z2⟩ := tc_cell (k := 6) g2 rfl 7 (.int .i64 (porC c).1) 7 (by decide) (.int .i64 (meanK x k).shigh) rfl
          have G3 : Hid (((w2.setCell ⟨G, 6, none⟩ (.int .i64 (porC c).1)).setCell ⟨G, 7, none⟩ (.int .i64 (porC c).2)).heap[G]? = some (.cells (entV (meanK x (k + 1))) 45 (0, 0))) := by show _ = _; rw [HS.out]; exact tc_row (tc_row g2 _) _
          have R3 : Hid (((w2.setCell ⟨G, 6, none⟩ (.int .i64 (porC c).1)).setCell ⟨G, 7, none⟩ (.int .i64 (porC c).2)).heap[w.heap.size + 1]? = some (.cells EntE.zero 45 (0, 0))) := (tc_far (by omega) _).trans ((tc_far (by omega) _).trans ((B2.out.block _ (by omega)).trans R2.out))
          have B3 : Hid (Below w.heap.size w ((w2.setCell ⟨G, 6, none⟩ (.int .i64 (porC c).1)).setCell ⟨G, 7, none⟩ (.int .i64 (porC c).2))) := tc_below (tc_below (HB.out.trans (B2.out.mono HB.out.size)) (by omega) _ _) (by omega) _ _
          clear hb2 g2 n0
          go_wp2_with fail
          go_roundw
          case rel => exact ⟨k + 1, by omega, by go_num, G3.out, R3.out, B3.out⟩
          case measure => simp [intOf]; omega
        · have HW : Hid (c.word = wDport) := hw
          rw [hw] at n0
          have HS : Hid (entV (meanK x (k + 1)) = ((entV (meanK x k)).setIfInBounds 8 (.int .i64 (porC c).1)).setIfInBounds 9 (.int .i64 (porC c).2)) := by show _ = _; rw [HX.out]; exact setC_dport hw
          clear hw
          unfold wDport at n0
          go_wp2_with (first
          | (refine wl_loadE (E := ClaE) ClaOk rfl _ rfl g (off + k * 5) rfl cur ty fr (claV c (.slice o1 n1 cap1)) rfl K1.out H1.out ?_)
          | (refine wl_storeE (E := ClaE) ClaOk rfl _ _ rfl wr.heap.size (claV c (.slice o1 n1 cap1)) ⟨rfl, by simp [claV, Value.oneCell']⟩ rfl rfl _ (heap_new _ _ _ rfl) rfl _ (setRow_new _ _ _ _ _ rfl) ?_)
            | (refine wl_loadE (E := ClaE) ClaOk rfl _ rfl wr.heap.size 0 rfl _ _ _ (claV c (.slice o1 n1 cap1)) rfl KN.out (own_cells _ _) ?_))
          refine (PO.out c _ _ (figs_below _ _ _ _ BN.out HF.out) HG0.out).mono ?_
          rintro e w2 ⟨rfl, hb2⟩
          have B2 : Hid (Below wr.heap.size wr w2) := BN.out.trans (hb2.mono BN.out.size)
          have g2 : w2.heap[G]? = some (.cells (entV (meanK x k)) 45 (0, 0)) := (B2.out.block G hGr).trans R0.out
          have q1 : w2.cell? ⟨G, 8, none⟩ = some (.int .i64 (meanK x k).dlow) := by rw [cell_of_row _ _ _ _ _ _ g2]; rfl
          have z1 : w2.frozen? ⟨G, 8, none⟩ = false := tc_frozen g2 rfl
          obtain ⟨q2, z2⟩ := tc_cell (k := 8) g2 rfl 9 (.int .i64 (porC c).1) 9 (by decide) (.int .i64 (meanK x k).dhigh) rfl
          have G3 : Hid (((w2.setCell ⟨G, 8, none⟩ (.int .i64 (porC c).1)).setCell ⟨G, 9, none⟩ (.int .i64 (porC c).2)).heap[G]? = some (.cells (entV (meanK x (k + 1))) 45 (0, 0))) := by show _ = _; rw [HS.out]; exact tc_row (tc_row g2 _) _
          have R3 : Hid (((w2.setCell ⟨G, 8, none⟩ (.int .i64 (porC c).1)).setCell ⟨G, 9, none⟩ (.int .i64 (porC c).2)).heap[w.heap.size + 1]? = some (.cells EntE.zero 45 (0, 0))) := (tc_far (by omega) _).trans ((tc_far (by omega) _).trans ((B2.out.block _ (by omega)).trans R2.out))
          have B3 : Hid (Below w.heap.size w ((w2.setCell ⟨G, 8, none⟩ (.int .i64 (porC c).1)).setCell ⟨G, 9, none⟩ (.int .i64 (porC c).2))) := tc_below (tc_below (HB.out.trans (B2.out.mono HB.out.size)) (by omega) _ _) (by omega) _ _
          clear hb2 g2 n0
          go_wp2_with fail
          go_roundw
          case rel => exact ⟨k + 1, by omega, by go_num, G3.out, R3.out, B3.out⟩
          case measure => simp [intOf]; omega
        · have HS : Hid (entV (meanK x (k + 1)) = (entV (meanK x k)).setIfInBounds 10 (.int .i64 (nth c 0))) := by show _ = _; rw [HX.out]; exact setC_proto hw
          rw [hw] at n0
          clear hw
          unfold wProto at n0
          obtain ⟨g1, off1, cur1, ty1, fr1, f, rfl, hg1, hc1', hf1⟩ := HF.out.at 0 hn0
          have hnf := nth_q hf1
          have cg : (wr.alloc (.cells (claV c (.slice (some ⟨g1, off1, none⟩) n1 cap1)) 76)).cell? ⟨g1, off1, none⟩ = some (.int .i64 (nth c 0)) := by
            rw [cell_of_row _ _ _ _ _ _ (heap_past _ _ _ _ hg1), hnf]
            have := hc1' 0 (by decide)
            rw [show off1 + 0 * FigE.size + 0 = off1 by simp] at this
            exact this
          have n2 := (cla_f KN.out).2.2.1
          have g2 : (wr.alloc (.cells (claV c (.slice (some ⟨g1, off1, none⟩) n1 cap1)) 76)).heap[G]? = some (.cells (entV (meanK x k)) 45 (0, 0)) := (BN.out.block G hGr).trans R0.out
          have q1 : (wr.alloc (.cells (claV c (.slice (some ⟨g1, off1, none⟩) n1 cap1)) 76)).cell? ⟨G, 10, none⟩ = some (.int .i64 (meanK x k).proto) := by rw [cell_of_row _ _ _ _ _ _ g2]; rfl
          have z1 : (wr.alloc (.cells (claV c (.slice (some ⟨g1, off1, none⟩) n1 cap1)) 76)).frozen? ⟨G, 10, none⟩ = false := tc_frozen g2 rfl
          have hp0 : (0 : Int) < (n1 : Int) := by omega
          obtain ⟨N, hN⟩ : ∃ N, N = nth c 0 := ⟨_, rfl⟩
          rw [← hN] at cg HS
          have G3 : Hid (((wr.setCell ⟨G, 10, none⟩ (.int .i64 N)).alloc (.cells (claV c (.slice (some ⟨g1, off1, none⟩) n1 cap1)) 76)).heap[G]? = some (.cells (entV (meanK x (k + 1))) 45 (0, 0))) := by show _ = _; rw [HS.out]; exact heap_past _ _ _ _ (tc_row R0.out _)
          have R3 : Hid (((wr.setCell ⟨G, 10, none⟩ (.int .i64 N)).alloc (.cells (claV c (.slice (some ⟨g1, off1, none⟩) n1 cap1)) 76)).heap[w.heap.size + 1]? = some (.cells EntE.zero 45 (0, 0))) := heap_past _ _ _ _ ((tc_far (by omega) _).trans R2.out)
          have B3 : Hid (Below w.heap.size w ((wr.setCell ⟨G, 10, none⟩ (.int .i64 N)).alloc (.cells (claV c (.slice (some ⟨g1, off1, none⟩) n1 cap1)) 76))) := (tc_below HB.out (by omega) _ _).alloc (tc_below HB.out (by omega) _ _).size _
          clear hg1 hc1' hf1 hnf g2 hN
          go_wp2_with (first
          | (refine wl_loadE (E := ClaE) ClaOk rfl _ rfl g (off + k * 5) rfl cur ty fr (claV c (.slice (some ⟨g1, off1, none⟩) n1 cap1)) rfl K1.out H1.out ?_)
          | (refine wl_storeE (E := ClaE) ClaOk rfl _ _ rfl wr.heap.size (claV c (.slice (some ⟨g1, off1, none⟩) n1 cap1)) ⟨rfl, by simp [claV, Value.oneCell']⟩ rfl rfl _ (heap_new _ _ _ rfl) rfl _ (setRow_new _ _ _ _ _ rfl) ?_)
            | fail)
          go_roundw
          case rel => exact ⟨k + 1, by omega, by go_num, G3.out, R3.out, B3.out⟩
          case measure => simp [intOf]; omega
      · have hlt' : (n : Int) ≤ (k : Int) := by omega
        obtain rfl : k = n := by omega
        clear hlt
        go_wp2_with (first
          | (refine wl_loadE (E := EntE) EntOk rfl _ rfl G 0 rfl _ _ _ (entV (meanK x k)) rfl R0.out (own_cells _ _) ?_)
          | (refine wl_storeE (E := EntE) EntOk rfl _ _ rfl (w.heap.size + 1) (entV (meanK x k)) (ent_fits _) rfl rfl _ R2.out rfl _ rfl ?_))
        refine retE (E := EntE) EntOk rfl rfl (w.heap.size + 1) rfl (entV (meanK x k)) rfl (setRow_heap _ _ _ _ _ _ R2.out) ?_
        exact ⟨by rw [HM.out], below_setRow HB.out (by omega) _⟩
end Go.Proofs.YtbdbjbmjnemknaaDoor
namespace Go.Proofs.YtbdbjbmjnemknaaDoor
open Go Go.RowKit
set_option maxRecDepth 20000

/-- What a check comes to: entries, error, place. -/
def outC : ResI (List Ent) → List Ent × Int × Int
  | .ok m => (m, 0, 0)
  | .error x => ([], (x.1 : Int), x.2)
def checkP (size : Int) (l : List Raw) : List Ent × Int × Int := outC (checkGo size 0 false l)
theorem map_app {m : List Ent} {x : ResI (List Ent)} {r : Ent} : ((x.map fun y => r :: y).map fun y => m ++ y) = x.map fun y => (m ++ [r]) ++ y := by
  cases x <;> simp [Except.map]
theorem map_nil' {x : ResI (List Ent)} : (x.map fun y => [] ++ y) = x := by
  cases x <;> simp [Except.map]
def EntsOwn (B : Nat) (w : World) (m : List Ent) (v : Value) : Prop := w.ownsRow B 45 12 v m.length (gcells entV m)
def EntsAt (w : World) (v : Value) (m : List Ent) : Prop := GSl EntE entV w v m
theorem ents_sl {B : Nat} {w : World} {m : List Ent} {v : Value} (h : EntsOwn B w m v) : EntsAt w v m := gsl_of (E := EntE) h fun _ _ => rfl
theorem pos_err {a : Int} {x : Int × Int} (h : x.1 ≠ 0) : x.1 = a → a ≠ 0 := fun e => e ▸ h

set_option maxHeartbeats 16000000 in
set_option maxRecDepth 100000 in
theorem check_any (l : List Raw) (vl : Value) (size : Int) (w : World) (hl : RawsAt w vl l) :
    Calls Tryd.prog 12 #[vl, .int .i64 size] w fun e w' => ∃ v, e = .returned (.tuple #[v, .int .i64 (checkP size l).2.1, .int .i64 (checkP size l).2.2]) ∧ EntsOwn w.heap.size w' (checkP size l).1 v ∧ Below w.heap.size w w' := by
  have ME : Hid (∀ (x : Raw) (u : Value) W, ClasAt W x u → rightR x → Calls Tryd.prog 27 #[.agg (rawV x u)] W fun e w' => e = .returned (.agg (entV (meaning x))) ∧ Below W.heap.size W w') := fun x u W h1 h2 => meaning_any x u W h1 h2.rule
  obtain ⟨o, cap, rfl, hc1, hc2⟩ := NSl.slice hl
  obtain ⟨n, hn⟩ : ∃ n, n = l.length := ⟨_, rfl⟩
  have HN : Hid (n = l.length) := hn
  rw [← hn] at hl hc1 ⊢
  have HL : Hid (RawsAt w (.slice o n cap) l) := hl
  unfold maxLen at hc2
  obtain ⟨P, hP⟩ : ∃ P, P = checkP size l := ⟨_, rfl⟩
  have HP : Hid (P = outC (checkGo size 0 false l)) := hP
  rw [← hP]
  clear hl hn hP
  go_enter Tryd.func12, Tryd.ntmps12
  go_wp2_with fail
  go_loopw [7, 8, 14] (fun v b i wr => ∃ (k : Nat) (had : Bool) (m : List Ent), k ≤ n ∧ k ≤ 64 ∧ i = .int .i64 (k : Int) ∧ b = .bool had ∧ m.length = k ∧ Hid (checkGo size 0 false l = (checkGo size k had (l.drop k)).map fun y => m ++ y) ∧ EntsOwn w.heap.size wr m v ∧ Below w.heap.size w wr) (fun _ _ i _ => n - (intOf i).toNat)
  case atStart => exact ⟨0, false, [], Nat.zero_le _, Nat.zero_le _, rfl, rfl, rfl, (by show _ = _; rw [List.drop_zero, map_nil']), World.ownsRow_nil _ _ _ _, Below.refl _ _⟩
  case round =>
    obtain ⟨k, had, m, hk, hk64, rfl, rfl, hm, HC, hown, hb⟩ := hrel
    have HO : Hid (EntsOwn w.heap.size wr m u7) := hown
    have HB : Hid (Below w.heap.size w wr) := hb
    have HM : Hid (m.length = k) := hm
    clear hown hb hm
    by_cases hlt : k < n
    · have hlt' : (k : Int) < (n : Int) := by omega
      obtain ⟨g, off, cur, ty, fr, r, u', rfl, hg, hc, hCk, hcl⟩ := NSl.at (NSl.below clas_below HL.out HB.out) k hlt
      have HD : Hid (l.drop k = r :: l.drop (k + 1)) := by
        obtain ⟨hk', rfl⟩ := List.getElem?_eq_some_iff.1 hCk
        exact List.drop_eq_getElem_cons hk'
      have K1 : Hid (wr.heap[g]? = some (.cells cur ty fr)) := hg
      have H1 : Hid (∀ i, i < 8 → cur[off + k * 8 + i]? = (rawV r u')[i]?) := hc
      have HF : Hid (ClasAt wr r u') := hcl
      obtain ⟨o1, cap1, rfl, -, -⟩ := NSl.slice hcl
      have BN : Hid (Below wr.heap.size wr (wr.alloc (.cells (rawV r (.slice o1 r.clauses.length cap1)) 55))) := (Below.refl _ _).alloc (Nat.le_refl _) _
      have KN : Hid ((wr.alloc (.cells (rawV r (.slice o1 r.clauses.length cap1)) 55)).heap[wr.heap.size]? = some (.cells (rawV r (.slice o1 r.clauses.length cap1)) 55 (0, 0))) := heap_new _ _ _ rfl
      have HFN : Hid (ClasAt (wr.alloc (.cells (rawV r (.slice o1 r.clauses.length cap1)) 55)) r (.slice o1 r.clauses.length cap1)) := clas_below _ _ _ _ BN.out HF.out
      clear hg hc hCk hcl
      go_wp2_with (first
        | (refine wl_loadE (E := RawE) RawOk rfl _ rfl g (off + k * 8) rfl cur ty fr (rawV r (.slice o1 r.clauses.length cap1)) rfl K1.out H1.out ?_)
        | (refine wl_storeE (E := RawE) RawOk rfl _ _ rfl wr.heap.size (rawV r (.slice o1 r.clauses.length cap1)) ⟨rfl, by simp [rawV, Value.oneCell']⟩ rfl rfl _ (heap_new _ _ _ rfl) rfl _ (setRow_new _ _ _ _ _ rfl) ?_))
      refine chk6_region (by exact Nat.le_refl _) k wr.heap.size had r (.slice o1 r.clauses.length cap1) rfl rfl rfl KN.out HFN.out ?_
      intro y w1 G hy hG hb1 hg1
      simp only [putsD, chk6_D, List.foldl_cons, List.foldl_nil, hy, Act.put, List.setIfInBounds_toArray, List.set_cons_succ, List.set_cons_zero]
      have B1 : Hid (Below wr.heap.size wr w1) := BN.out.trans (hb1.mono BN.out.size)
      have KR : Hid (w1.heap[wr.heap.size]? = some (.cells (rawV r (.slice o1 r.clauses.length cap1)) 55 (0, 0))) := (hb1.block _ (by simp)).trans KN.out
      have HF1 : Hid (ClasAt w1 r (.slice o1 r.clauses.length cap1)) := clas_below _ _ _ _ B1.out HF.out
      have HO1 : Hid (EntsOwn w.heap.size w1 m u7) := gown_below HO.out B1.out
      have BW : Hid (Below w.heap.size w w1) := HB.out.trans (B1.out.mono HB.out.size)
      have G0 : Hid (w1.heap[G]? = some (.cells (fltV (rowF k had r)) 68 (0, 0))) := hg1
      have f0 : w1.cell? ⟨G, 0, none⟩ = some (.int .i64 (rowF k had r).1) := by rw [cell_of_row _ _ _ _ _ _ G0.out]; rfl
      clear hy hG hb1 hg1 BN KN HFN K1 H1
      by_cases hz : (rowF k had r).1 = 0
      · have hz' : ((rowF k had r).1 != 0) = false := by simp [hz]
        obtain ⟨hgo, hright, h64⟩ := check_good size k had r (l.drop (k + 1)) hz
        have HRT : Hid (rightR r) := hright
        have HC2 : Hid (checkGo size 0 false l = (checkGo size (k + 1) (had || r.dflt) (l.drop (k + 1))).map fun y => (m ++ [meaning r]) ++ y) := by
          show _ = _
          rw [HC.out, HD.out, hgo, map_app]
        have hd1 := (raw_f KR.out).2.1
        clear hgo hright hz
        have step : ∀ (w2 : World), Below w1.heap.size w1 w2 → True := fun _ _ => trivial
        clear step
        cases had with
        | false =>
          go_wp2_with (first
            | (refine wl_loadE (E := RawE) RawOk rfl _ rfl wr.heap.size 0 rfl _ _ _ (rawV r (.slice o1 r.clauses.length cap1)) rfl KR.out (own_cells _ _) ?_))
          refine (ME.out _ _ _ HF1.out HRT.out).mono ?_
          rintro e w2 ⟨rfl, hb2⟩
          have B2 : Hid (Below w.heap.size w w2) := BW.out.trans (hb2.mono BW.out.size)
          have HO2 : Hid (EntsOwn w.heap.size (w2.alloc (.cells (entV (meaning r)) 45)) m u7) := (gown_below HO1.out hb2).alloc _
          clear hb2 hd1 f0
          go_wp2_with (first
            | (refine wl_buildE (E := EntE) EntOk rfl _ rfl (entV (meaning r)) rfl rfl ?_)
            | (at_builtin; refine of_stopT ?_))
          unfold StopT
          refine wl_appendE (E := EntE) EntOk entV rfl _ _ rfl w.heap.size u7 m (meaning r) (ent_fits _) rfl HO2.out w2.heap.size 1 rfl (heap_new _ _ _ rfl) (by have := HM.out; omega) (by have := B2.out.size; simp; omega) ?_
          intro v' w3 hown3 hgr3 _
          have B3 : Hid (Below w.heap.size w w3) := (B2.out.alloc B2.out.size _).trans ((Below.refl _ _).grown hgr3 (B2.out.alloc B2.out.size _).size fun k hk => (HO2.out.lt k hk).1)
          have HO3 : Hid (EntsOwn w.heap.size w3 (m ++ [meaning r]) v') := hown3
          clear hown3 hgr3
          simp only [Act.put, List.setIfInBounds_toArray, List.set_cons_succ, List.set_cons_zero]
          go_wp2_with fail
          go_roundw
          case rel => exact ⟨k + 1, r.dflt, m ++ [meaning r], by omega, by omega, by go_num, by simp, by rw [List.length_append, HM.out]; rfl, (by have := HC2.out; rw [Bool.false_or] at this; exact this), HO3.out, B3.out⟩
          case measure => simp [intOf]; omega
        | true =>
          go_wp2_with (first
            | (refine wl_loadE (E := RawE) RawOk rfl _ rfl wr.heap.size 0 rfl _ _ _ (rawV r (.slice o1 r.clauses.length cap1)) rfl KR.out (own_cells _ _) ?_))
          refine (ME.out _ _ _ HF1.out HRT.out).mono ?_
          rintro e w2 ⟨rfl, hb2⟩
          have B2 : Hid (Below w.heap.size w w2) := BW.out.trans (hb2.mono BW.out.size)
          have HO2 : Hid (EntsOwn w.heap.size (w2.alloc (.cells (entV (meaning r)) 45)) m u7) := (gown_below HO1.out hb2).alloc _
          clear hb2 hd1 f0
          go_wp2_with (first
            | (refine wl_buildE (E := EntE) EntOk rfl _ rfl (entV (meaning r)) rfl rfl ?_)
            | (at_builtin; refine of_stopT ?_))
          unfold StopT
          refine wl_appendE (E := EntE) EntOk entV rfl _ _ rfl w.heap.size u7 m (meaning r) (ent_fits _) rfl HO2.out w2.heap.size 1 rfl (heap_new _ _ _ rfl) (by have := HM.out; omega) (by have := B2.out.size; simp; omega) ?_
          intro v' w3 hown3 hgr3 _
          have B3 : Hid (Below w.heap.size w w3) := (B2.out.alloc B2.out.size _).trans ((Below.refl _ _).grown hgr3 (B2.out.alloc B2.out.size _).size fun k hk => (HO2.out.lt k hk).1)
          have HO3 : Hid (EntsOwn w.heap.size w3 (m ++ [meaning r]) v') := hown3
          clear hown3 hgr3
          simp only [Act.put, List.setIfInBounds_toArray, List.set_cons_succ, List.set_cons_zero]
          go_wp2_with fail
          go_roundw
          case rel => exact ⟨k + 1, true, m ++ [meaning r], by omega, by omega, by go_num, by simp, by rw [List.length_append, HM.out]; rfl, (by have := HC2.out; rw [Bool.true_or] at this; exact this), HO3.out, B3.out⟩
          case measure => simp [intOf]; omega
      · have hz' : ((rowF k had r).1 != 0) = true := by simp [hz]
        obtain ⟨e0, hgo, he0⟩ := check_bad size k had r (l.drop (k + 1)) hz
        have HPE : Hid (P = ([], (rowF k had r).1, (rowF k had r).2)) := by
          show _ = _
          rw [HP.out, HC.out, HD.out, hgo, he0]
          rfl
        have l0 : ∀ u : Later w1, u.world.cell? ⟨G, 0, none⟩ = some (.int .i64 (rowF k had r).1) := later_cell7 G0.out rfl
        have l1 : ∀ u : Later w1, u.world.cell? ⟨G, 1, none⟩ = some (.int .i64 (rowF k had r).2) := later_cell7 G0.out rfl
        clear hgo he0 hz
        go_wp2_with fail
        have ne1 := Later.ne w1
        refine wp_region_later (by kernel_rfl) (by kernel_rfl) ?_
        repeat go_big_quiet_step (rfl)
        refine wpQuiet_nil ?_
        rintro w' ⟨v, rfl⟩
        go_wp2_with fail
        go_ret3
        rw [HPE.out]
        exact ⟨_, rfl, World.ownsRow_nil _ _ _ _, BW.out.trans (v.below.mono BW.out.size)⟩
    · have hlt' : (n : Int) ≤ (k : Int) := by omega
      have hdrop : l.drop k = [] := List.drop_of_length_le (by have := HN.out; omega)
      have HC3 : Hid (checkGo size 0 false l = (checkGo size k had []).map fun y => m ++ y) := by rw [← hdrop]; exact HC.out
      clear hlt hdrop
      cases had with
      | true =>
        have HPE : Hid (P = (m, 0, 0)) := by
          show _ = _
          rw [HP.out, HC3.out]
          simp [checkGo, Except.map, outC]
        go_wp2_with fail
        go_ret3
        rw [HPE.out]
        exact ⟨_, rfl, HO.out, HB.out⟩
      | false =>
        have HPE : Hid (P = ([], 11, size)) := by
          show _ = _
          rw [HP.out, HC3.out]
          simp [checkGo, Except.map, outC]
        go_wp2_with fail
        go_ret3
        rw [HPE.out]
        exact ⟨_, rfl, World.ownsRow_nil _ _ _ _, HB.out⟩
end Go.Proofs.YtbdbjbmjnemknaaDoor
namespace Go.Proofs.YtbdbjbmjnemknaaDoor
open Go
set_option maxRecDepth 20000

/-- The best so far with one entry more. -/
def stepB (ap : Ent → Bool) (b : Option (Nat × Int)) (i : Nat) (x : Ent) : Option (Nat × Int) := if !x.dflt && ap x && beats x.prio b then some (i, x.prio) else b
theorem bestGo_snoc (ap : Ent → Bool) (x : Ent) : ∀ (l : List Ent) (i : Nat) (b : Option (Nat × Int)), bestGo ap i b (l ++ [x]) = stepB ap (bestGo ap i b l) (i + l.length) x
  | [], i, b => rfl
  | y :: l, i, b => by
    rw [List.cons_append, bestGo, bestGo, bestGo_snoc ap x l (i + 1)]
    rw [show i + 1 + l.length = i + (y :: l).length by simp; omega]
theorem firstD_snoc (x : Ent) : ∀ (l : List Ent) (i : Nat), firstD i (l ++ [x]) = (firstD i l).or (if x.dflt then some (i + l.length) else none)
  | [], i => by simp [firstD]
  | y :: l, i => by
    rw [List.cons_append, firstD, firstD]
    split
    · rfl
    · rw [firstD_snoc x l (i + 1), show i + 1 + l.length = i + (y :: l).length by simp; omega]
def bestK (ap : Ent → Bool) (l : List Ent) (k : Nat) : Option (Nat × Int) := bestGo ap 0 none (l.take k)
def restK (l : List Ent) (k : Nat) : Option Nat := firstD 0 (l.take k)
theorem bestK_next (ap : Ent → Bool) {l : List Ent} {k : Nat} {x : Ent} (h : l[k]? = some x) : bestK ap l (k + 1) = stepB ap (bestK ap l k) k x := by
  obtain ⟨hk, rfl⟩ := List.getElem?_eq_some_iff.1 h
  unfold bestK
  rw [List.take_succ_eq_append_getElem hk, bestGo_snoc, List.length_take, Nat.min_eq_left (Nat.le_of_lt hk), Nat.zero_add]
theorem restK_next {l : List Ent} {k : Nat} {x : Ent} (h : l[k]? = some x) : restK l (k + 1) = (restK l k).or (if x.dflt then some k else none) := by
  obtain ⟨hk, rfl⟩ := List.getElem?_eq_some_iff.1 h
  unfold restK
  rw [List.take_succ_eq_append_getElem hk, firstD_snoc, List.length_take, Nat.min_eq_left (Nat.le_of_lt hk), Nat.zero_add]
theorem bestK_in (ap : Ent → Bool) {l : List Ent} {k j : Nat} {p : Int} (h : bestK ap l k = some (j, p)) : ∃ x, l[j]? = some x ∧ x.prio = p ∧ x.dflt = false ∧ ap x = true ∧ j < k := by
  unfold bestK at h
  obtain ⟨x, h1, h2, h3, h4⟩ := bestGo_in ap (l.take k) (l.take k) 0 none (fun k => by rw [Nat.zero_add]) (fun j p hjp => by cases hjp) j p h
  have hj : j < k := by
    have := (List.getElem?_eq_some_iff.1 h1).1
    rw [List.length_take] at this
    omega
  rw [List.getElem?_take_of_lt hj] at h1
  exact ⟨x, h1, h2, h3, h4, hj⟩
/-- A place, or -1. -/
def atW : Option Nat → Int
  | none => -1
  | some i => (i : Int)
def bestI (b : Option (Nat × Int)) : Int := atW (b.map (·.1))
def whichI (ap : Ent → Bool) (l : List Ent) : Int := atW (whichT ap l)
theorem whichI_eq (ap : Ent → Bool) (l : List Ent) : whichI ap l = if bestI (bestK ap l l.length) < 0 then atW (restK l l.length) else bestI (bestK ap l l.length) := by
  unfold whichI whichT bestK restK
  rw [List.take_length]
  cases bestGo ap 0 none l with
  | none => rfl
  | some b =>
    obtain ⟨i, p⟩ := b
    rw [if_neg (by show ¬ ((i : Int) < 0); omega)]
    rfl
theorem atW_lt (o : Option Nat) : decide (atW o < 0) = o.isNone := by
  cases o with
  | none => rfl
  | some i => exact decide_eq_false (by show ¬ ((i : Int) < 0); omega)
theorem firstD_lt : ∀ (l : List Ent) (i j : Nat), firstD i l = some j → i ≤ j ∧ ∃ x, l[j - i]? = some x ∧ x.dflt = true
  | [], i, j, h => by simp [firstD] at h
  | y :: l, i, j, h => by
    rw [firstD] at h
    split at h
    · rename_i hy
      obtain rfl := Option.some.inj h
      exact ⟨Nat.le_refl _, y, by rw [Nat.sub_self]; rfl, hy⟩
    · obtain ⟨h1, x, h2, h3⟩ := firstD_lt l (i + 1) j h
      refine ⟨by omega, x, ?_, h3⟩
      rw [show j - i = (j - (i + 1)) + 1 by omega, List.getElem?_cons_succ]
      exact h2
theorem whichT_in {ap : Ent → Bool} {l : List Ent} {i : Nat} (h : whichT ap l = some i) : ∃ x, l[i]? = some x := by
  unfold whichT at h
  cases hb : bestGo ap 0 none l with
  | none =>
    rw [hb] at h
    obtain ⟨_, x, h2, _⟩ := firstD_lt l 0 i h
    exact ⟨x, h2⟩
  | some b =>
    obtain ⟨j, p⟩ := b
    rw [hb] at h
    obtain rfl := Option.some.inj h
    obtain ⟨x, h1, _⟩ := bestGo_in ap l l 0 none (fun k => by rw [Nat.zero_add]) (fun j p hjp => by cases hjp) _ _ hb
    exact ⟨x, h1⟩
/-- What a list says. -/
def saysT (ap : Ent → Bool) (l : List Ent) : Int × Bool := match whichT ap l with
  | none => (0, false)
  | some i => ((l.getD i ⟨false, 0, 0, 0, 0, 0, 0, 0, 0, 0, 0, 0⟩).action, true)
/-- No entry beats the best one. -/
def lessB (b : Option (Nat × Int)) (i : Nat) (p : Int) : Prop := match b with
  | none => False
  | some (j, q) => p < q ∨ p = q ∧ j ≤ i
theorem bestK_most (ap : Ent → Bool) (l : List Ent) : ∀ (k : Nat), k ≤ l.length → ∀ (i : Nat) (x : Ent), i < k → l[i]? = some x → x.dflt = false → ap x = true → lessB (bestK ap l k) i x.prio
  | 0, _, i, x, h, _, _, _ => by omega
  | k + 1, hk, i, x, hi, hx, hd, ha => by
    have hy : l[k]? = some l[k] := List.getElem?_eq_getElem (by omega)
    rw [bestK_next ap hy]
    obtain ⟨y, hye⟩ : ∃ y, y = l[k] := ⟨_, rfl⟩
    rw [← hye] at hy ⊢
    unfold stepB
    by_cases hik : i = k
    · subst hik
      obtain rfl : x = y := Option.some.inj (hx.symm.trans hy)
      rw [hd, ha]
      simp only [Bool.not_false, Bool.true_and]
      cases hb : bestK ap l i with
      | none => rw [if_pos (show beats x.prio none = true from rfl)]; exact .inr ⟨rfl, Nat.le_refl _⟩
      | some b =>
        obtain ⟨j, q⟩ := b
        obtain ⟨_, _, _, _, _, hj⟩ := bestK_in ap hb
        by_cases hq : q < x.prio
        · rw [if_pos (by simp [beats, hq])]; exact .inr ⟨rfl, Nat.le_refl _⟩
        · rw [if_neg (by simp [beats, hq])]
          show x.prio < q ∨ x.prio = q ∧ j ≤ i
          omega
    · have ih := bestK_most ap l k (by omega) i x (by omega) hx hd ha
      cases hb : bestK ap l k with
      | none => rw [hb] at ih; exact ih.elim
      | some b =>
        obtain ⟨j, q⟩ := b
        rw [hb] at ih
        have ih' : x.prio < q ∨ x.prio = q ∧ j ≤ i := ih
        split
        · rename_i hc
          simp only [Bool.and_eq_true, beats, decide_eq_true_eq] at hc
          show x.prio < y.prio ∨ x.prio = y.prio ∧ k ≤ i
          omega
        · exact ih'
/-- What is asked of the entries that apply, against the one that says something. -/
theorem which_most (ap : Ent → Bool) (l : List Ent) {i k : Nat} {y x : Ent} (hw : whichT ap l = some i) (hy : l[i]? = some y) (hx : l[k]? = some x) (hd : x.dflt = false) (ha : ap x = true) : y.dflt = false ∧ ¬ y.prio < x.prio ∧ ¬ (x.prio = y.prio ∧ k < i) := by
  have hk := (List.getElem?_eq_some_iff.1 hx).1
  have h1 := bestK_most ap l l.length (Nat.le_refl _) k x hk hx hd ha
  cases hb : bestK ap l l.length with
  | none => rw [hb] at h1; exact h1.elim
  | some b =>
    obtain ⟨j, q⟩ := b
    obtain ⟨z, hz, hq, hzd, _, _⟩ := bestK_in ap hb
    have hw2 : whichT ap l = some j := by
      unfold whichT
      unfold bestK at hb
      rw [List.take_length] at hb
      rw [hb]
    rw [hw] at hw2
    obtain rfl := Option.some.inj hw2
    obtain rfl : y = z := Option.some.inj (hy.symm.trans hz)
    rw [hb] at h1
    have h2 : x.prio < q ∨ x.prio = q ∧ i ≤ k := h1
    refine ⟨hzd, ?_, ?_⟩ <;> omega

/-! First bits. -/
def clB (n : Int) : Nat := (min (max n 0) 32).toNat
def beginsM (a b n : Int) : Bool := a / 2 ^ (32 - clB n) == b / 2 ^ (32 - clB n)
theorem begins_zero (a b : Int) (ha : 0 ≤ a ∧ a < 4294967296) (hb : 0 ≤ b ∧ b < 4294967296) : a / 2 ^ 32 = b / 2 ^ 32 := by
  have e : (2 : Int) ^ 32 = 4294967296 := by decide
  rw [e]; omega
theorem begins_step (a b : Int) (k : Nat) (hk : k < 32) (h : a / 2 ^ (32 - k) = b / 2 ^ (32 - k)) : (a / 2 ^ (32 - (k + 1)) = b / 2 ^ (32 - (k + 1))) ↔ a / 2 ^ (31 - k) % 2 = b / 2 ^ (31 - k) % 2 := by
  rw [show 32 - (k + 1) = 31 - k by omega]
  have e : ∀ x : Int, x / 2 ^ (32 - k) = x / 2 ^ (31 - k) / 2 := fun x => by
    rw [show 32 - k = (31 - k) + 1 by omega, Int.pow_succ, ← Int.ediv_ediv_of_nonneg (Int.pow_nonneg (by decide))]
  rw [e, e] at h
  constructor
  · intro hh; rw [hh]
  · intro hh; omega
theorem begins_more (a b : Int) (k m : Nat) (hkm : k ≤ m) (hm : m ≤ 32) (h : ¬ a / 2 ^ (32 - k) = b / 2 ^ (32 - k)) : ¬ a / 2 ^ (32 - m) = b / 2 ^ (32 - m) := by
  intro hh
  apply h
  have e : ∀ x : Int, x / 2 ^ (32 - k) = x / 2 ^ (32 - m) / 2 ^ (m - k) := fun x => by
    rw [Int.ediv_ediv_of_nonneg (Int.pow_nonneg (by decide)), ← Int.pow_add, show 32 - m + (m - k) = 32 - k by omega]
  rw [e, e, hh]
end Go.Proofs.YtbdbjbmjnemknaaDoor
namespace Go.Proofs.YtbdbjbmjnemknaaDoor
open Go Go.RowKit
set_option maxRecDepth 20000

theorem u32_xor7 (a b : Nat) (ha : a < 4294967296) (hb : b < 4294967296) : bits .xor .u32 (a : Int) (b : Int) = ((a ^^^ b : Nat) : Int) := by
  have hx : a ^^^ b < 2 ^ 32 := Nat.xor_lt_two_pow (by omega) (by omega)
  have ha' : a % 2 ^ IntKind.u32.bits = a := Nat.mod_eq_of_lt (by simpa [IntKind.bits] using ha)
  have hb' : b % 2 ^ IntKind.u32.bits = b := Nat.mod_eq_of_lt (by simpa [IntKind.bits] using hb)
  simp only [bits, BitVec.ofInt_natCast, BitVec.toNat_xor, BitVec.toNat_ofNat, ha', hb', IntKind.wrap_u32]
  omega
theorem xor_begins (a b : Int) (k : Nat) (ha : 0 ≤ a ∧ a < 4294967296) (hb : 0 ≤ b ∧ b < 4294967296) : (bits .xor .u32 a b / 2 ^ k == 0) = (a / 2 ^ k == b / 2 ^ k) := by
  obtain ⟨m, rfl⟩ := Int.eq_ofNat_of_zero_le ha.1
  obtain ⟨n, rfl⟩ := Int.eq_ofNat_of_zero_le hb.1
  rw [u32_xor7 m n (by omega) (by omega)]
  have c : ∀ x : Nat, ((x : Int) / 2 ^ k) = ((x >>> k : Nat) : Int) := fun x => by rw [Nat.shiftRight_eq_div_pow]; simp
  rw [c, c, c, Nat.shiftRight_xor_distrib, Bool.eq_iff_iff, beq_iff_eq, beq_iff_eq]
  constructor
  · intro h
    have : (m >>> k) ^^^ (n >>> k) = 0 := by exact_mod_cast h
    have h2 : ((m >>> k) ^^^ (n >>> k)) ^^^ (n >>> k) = 0 ^^^ (n >>> k) := by rw [this]
    rw [Nat.xor_assoc, Nat.xor_self, Nat.xor_zero, Nat.zero_xor] at h2
    rw [h2]
  · intro h
    have : m >>> k = n >>> k := by exact_mod_cast h
    rw [this, Nat.xor_self]; rfl
theorem xor_bd (a b : Int) (ha : 0 ≤ a ∧ a < 4294967296) (hb : 0 ≤ b ∧ b < 4294967296) : 0 ≤ bits .xor .u32 a b ∧ bits .xor .u32 a b < 4294967296 := by
  obtain ⟨m, rfl⟩ := Int.eq_ofNat_of_zero_le ha.1
  obtain ⟨n, rfl⟩ := Int.eq_ofNat_of_zero_le hb.1
  rw [u32_xor7 m n (by omega) (by omega)]
  have hx : m ^^^ n < 2 ^ 32 := Nat.xor_lt_two_pow (by omega) (by omega)
  omega

set_option maxHeartbeats 2000000 in
theorem begins7_any (a b n : Int) (ha : 0 ≤ a ∧ a < 4294967296) (hb : 0 ≤ b ∧ b < 4294967296) (w : World) :
    Calls Tryd.prog 51 #[.int .u32 a, .int .u32 b, .int .i64 n] w fun e w' => e = .returned (.bool (beginsM a b n)) ∧ w' = w := by
  have HX : Hid (∀ k, (bits .xor .u32 a b / 2 ^ k == 0) = (a / 2 ^ k == b / 2 ^ k)) := fun k => xor_begins a b k ha hb
  have hx := xor_bd a b ha hb
  by_cases h0 : n < 0
  · have e : clB n = 0 := by unfold clB; omega
    have HB : Hid (beginsM a b n = (bits .xor .u32 a b / 2 ^ 32 == 0)) := by show _ = _; unfold beginsM; rw [e, HX.out]
    clear e
    go_enter Tryd.func51, Tryd.ntmps51
    go_wp2_with fail
    go_ret
    rw [HB.out]
    exact ⟨rfl, rfl⟩
  · by_cases h1 : n ≤ 32
    · have e : 32 - clB n = (32 - n).toNat := by unfold clB; omega
      have HB : Hid (beginsM a b n = (bits .xor .u32 a b / 2 ^ (32 - n).toNat == 0)) := by show _ = _; unfold beginsM; rw [e, HX.out]
      clear e
      have h0' : 0 ≤ n := by omega
      clear h0
      go_enter Tryd.func51, Tryd.ntmps51
      go_wp2_with fail
      go_ret
      rw [HB.out]
      exact ⟨rfl, rfl⟩
    · have e : 32 - clB n = 0 := by unfold clB; omega
      have HB : Hid (beginsM a b n = (bits .xor .u32 a b == 0)) := by show _ = _; unfold beginsM; rw [e, ← HX.out 0, Int.pow_zero, Int.ediv_one]
      clear e
      have h1' : 32 < n := by omega
      have h0' : 0 ≤ n := by omega
      clear h0 h1
      go_enter Tryd.func51, Tryd.ntmps51
      go_wp2_with fail
      go_ret
      rw [HB.out]
      exact ⟨rfl, rfl⟩

set_option maxHeartbeats 2000000 in
theorem within_any (v lo hi : Int) (hv : 0 ≤ v ∧ v < 4294967296) (w : World) :
    Calls Tryd.prog 53 #[.int .u32 v, .int .i64 lo, .int .i64 hi] w fun e w' => e = .returned (.bool (decide (lo ≤ v) && decide (v ≤ hi))) ∧ w' = w := by
  obtain ⟨h1, h2⟩ := hv
  by_cases h3 : lo ≤ v
  · by_cases h4 : v ≤ hi
    · rw [decide_eq_true h3, decide_eq_true h4]
      go_enter Tryd.func53, Tryd.ntmps53
      go_wp2_with fail
      go_ret
      exact ⟨rfl, rfl⟩
    · rw [decide_eq_true h3, decide_eq_false h4]
      go_enter Tryd.func53, Tryd.ntmps53
      go_wp2_with fail
      go_ret
      exact ⟨rfl, rfl⟩
  · rw [decide_eq_false h3]
    go_enter Tryd.func53, Tryd.ntmps53
    go_wp2_with fail
    go_ret
    exact ⟨rfl, rfl⟩
/-- A field's number. -/
def fldN (L : List Int) (f : Int) : Int := getN L (atOf f) (sizeOfF f)
theorem fldN_bd (L : List Int) (hL : Byt L) (f : Int) (h0 : 0 ≤ f) (h1 : f < 5) : 0 ≤ fldN L f ∧ fldN L f < 4294967296 := by
  have h := getN_bd L hL (atOf f) (sizeOfF f)
  have hs := (place_facts f h0 h1).2.2.2.1
  have : (256 : Int) ^ sizeOfF f ≤ 4294967296 := by
    rcases (show sizeOfF f = 0 ∨ sizeOfF f = 1 ∨ sizeOfF f = 2 ∨ sizeOfF f = 3 ∨ sizeOfF f = 4 by omega) with h | h | h | h | h <;> rw [h] <;> decide
  unfold fldN
  omega
set_option maxHeartbeats 2000000 in
theorem field7_any (L : List Int) (hL : Byt L) (f : Int) (h0 : 0 ≤ f) (h1 : f < 5) (w : World) (hP : Places w) :
    Calls Tryd.prog 52 #[.agg (hv L), .int .i64 f] w fun e w' => e = .returned (.int .u32 (fldN L f)) ∧ Below w.heap.size w w' := by
  have hl := hL.1
  have hp := hP.pos
  have FC : Hid (∀ W, Places W → Calls Tryd.prog 68 #[.agg (hv L), .int .i64 f] W fun e w' => e = .returned (.tuple #[.int .u32 (fldN L f), .int .i64 0]) ∧ Below W.heap.size W w') := fun W hW => field_ok L hL f W h0 h1 hW
  have KN : Hid ((w.alloc (.cells (hv L) 34)).heap[w.heap.size]? = some (.cells (hv L) 34 (0, 0)) ∧ Places (w.alloc (.cells (hv L) 34)) ∧ Below w.heap.size w (w.alloc (.cells (hv L) 34))) := ⟨heap_new _ _ _ rfl, hP.later hp ((Below.refl _ _).alloc (Nat.le_refl _) _), (Below.refl _ _).alloc (Nat.le_refl _) _⟩
  clear hP hp
  go_enter Tryd.func52, Tryd.ntmps52
  go_wp2_with (refine wl_load26 rfl _ rfl w.heap.size rfl L KN.out.1 hl ?_)
  refine (FC.out _ KN.out.2.1).mono ?_
  rintro e w1 ⟨rfl, hb1⟩
  go_wp2_with fail
  go_ret
  exact ⟨rfl, KN.out.2.2.trans (hb1.mono KN.out.2.2.size)⟩
end Go.Proofs.YtbdbjbmjnemknaaDoor
namespace Go.Proofs.YtbdbjbmjnemknaaDoor
open Go Go.RowKit
set_option maxRecDepth 20000

def applyR (L : List Int) (x : Ent) : Bool := beginsM (fldN L 0) x.src x.srcBits && beginsM (fldN L 1) x.dst x.dstBits && (decide (x.slow ≤ fldN L 2) && decide (fldN L 2 ≤ x.shigh)) && (decide (x.dlow ≤ fldN L 3) && decide (fldN L 3 ≤ x.dhigh)) && (x.proto == -1 || x.proto == fldN L 4)
/-- Does an entry apply to a header? -/
def applyT (L : List Int) (x : Ent) : Bool := x.dflt || applyR L x
/-- An entry's addresses are numbers of 32 bits. -/
def ent32 (x : Ent) : Prop := (0 ≤ x.src ∧ x.src < 4294967296) ∧ (0 ≤ x.dst ∧ x.dst < 4294967296)
theorem ent_f {w : World} {b : Nat} {x : Ent} {ty : TypeId} {fr : Nat × Nat} (h : w.heap[b]? = some (.cells (entV x) ty fr)) :
    w.cell? ⟨b, 0, none⟩ = some (.bool x.dflt) ∧ w.cell? ⟨b, 1, none⟩ = some (.int .i64 x.prio) ∧ w.cell? ⟨b, 11, none⟩ = some (.int .i64 x.action) := by
  refine ⟨?_, ?_, ?_⟩ <;> (rw [cell_of_row _ _ _ _ _ _ h]; rfl)

set_option maxHeartbeats 16000000 in
set_option maxRecDepth 100000 in
theorem applies_any (x : Ent) (hx : ent32 x) (L : List Int) (hL : Byt L) (w : World) (hP : Places w) :
    Calls Tryd.prog 37 #[.agg (entV x), .agg (hv L)] w fun e w' => e = .returned (.bool (applyT L x)) ∧ Below w.heap.size w w' := by
  have hl := hL.1
  have hp := hP.pos
  obtain ⟨Wa, hWa⟩ : ∃ Wa, Wa = (w.alloc (.cells (entV x) 45)).alloc (.cells (hv L) 34) := ⟨_, rfl⟩
  have b1 : Wa.heap[w.heap.size]? = some (.cells (entV x) 45 (0, 0)) := by rw [hWa]; exact heap_past _ _ _ _ (heap_new _ _ _ rfl)
  have b2 : Wa.heap[w.heap.size + 1]? = some (.cells (hv L) 34 (0, 0)) := by rw [hWa]; exact heap_new _ _ _ (by simp)
  have BA : Below w.heap.size w Wa := by rw [hWa]; exact below2 _ _ _
  have PA : Places Wa := hP.later hp BA
  have pa := PA.pos
  have HBA : Hid (Below w.heap.size w Wa) := BA
  have d0 := (ent_f b1).1
  rw [hWa] at d0
  cases hd : x.dflt with
  | true =>
    rw [hd] at d0
    rw [show applyT L x = true by unfold applyT; rw [hd]; rfl]
    rw [hWa] at HBA
    clear b1 b2 BA PA hWa hP
    go_enter Tryd.func37, Tryd.ntmps37
    go_wp2_with fail
    go_ret
    exact ⟨rfl, HBA.out⟩
  | false =>
    rw [hd] at d0
    rw [show applyT L x = applyR L x by unfold applyT; rw [hd]; rfl]
    have FD0 : Hid (∀ u : Later Wa, Calls Tryd.prog 52 #[.agg (hv L), .int .i64 0] u.world fun e w' => e = .returned (.int .u32 (fldN L 0)) ∧ Below u.world.heap.size u.world w') := fun u => field7_any L hL 0 (by decide) (by decide) u.world (PA.later pa u.below)
    have fb0 := fldN_bd L hL 0 (by decide) (by decide)
    have FD1 : Hid (∀ u : Later Wa, Calls Tryd.prog 52 #[.agg (hv L), .int .i64 1] u.world fun e w' => e = .returned (.int .u32 (fldN L 1)) ∧ Below u.world.heap.size u.world w') := fun u => field7_any L hL 1 (by decide) (by decide) u.world (PA.later pa u.below)
    have fb1 := fldN_bd L hL 1 (by decide) (by decide)
    have FD2 : Hid (∀ u : Later Wa, Calls Tryd.prog 52 #[.agg (hv L), .int .i64 2] u.world fun e w' => e = .returned (.int .u32 (fldN L 2)) ∧ Below u.world.heap.size u.world w') := fun u => field7_any L hL 2 (by decide) (by decide) u.world (PA.later pa u.below)
    have fb2 := fldN_bd L hL 2 (by decide) (by decide)
    have FD3 : Hid (∀ u : Later Wa, Calls Tryd.prog 52 #[.agg (hv L), .int .i64 3] u.world fun e w' => e = .returned (.int .u32 (fldN L 3)) ∧ Below u.world.heap.size u.world w') := fun u => field7_any L hL 3 (by decide) (by decide) u.world (PA.later pa u.below)
    have fb3 := fldN_bd L hL 3 (by decide) (by decide)
    have FD4 : Hid (∀ u : Later Wa, Calls Tryd.prog 52 #[.agg (hv L), .int .i64 4] u.world fun e w' => e = .returned (.int .u32 (fldN L 4)) ∧ Below u.world.heap.size u.world w') := fun u => field7_any L hL 4 (by decide) (by decide) u.world (PA.later pa u.below)
    have fb4 := fldN_bd L hL 4 (by decide) (by decide)
    have HR : Hid (applyR L x = (beginsM (fldN L 0) x.src x.srcBits && beginsM (fldN L 1) x.dst x.dstBits && (decide (x.slow ≤ fldN L 2) && decide (fldN L 2 ≤ x.shigh)) && (decide (x.dlow ≤ fldN L 3) && decide (fldN L 3 ≤ x.dhigh)) && (x.proto == -1 || x.proto == fldN L 4))) := rfl
    obtain ⟨F0, hF0⟩ : ∃ F, F = fldN L 0 := ⟨_, rfl⟩
    rw [← hF0] at FD0 fb0 HR
    clear hF0
    obtain ⟨F1, hF1⟩ : ∃ F, F = fldN L 1 := ⟨_, rfl⟩
    rw [← hF1] at FD1 fb1 HR
    clear hF1
    obtain ⟨F2, hF2⟩ : ∃ F, F = fldN L 2 := ⟨_, rfl⟩
    rw [← hF2] at FD2 fb2 HR
    clear hF2
    obtain ⟨F3, hF3⟩ : ∃ F, F = fldN L 3 := ⟨_, rfl⟩
    rw [← hF3] at FD3 fb3 HR
    clear hF3
    obtain ⟨F4, hF4⟩ : ∃ F, F = fldN L 4 := ⟨_, rfl⟩
    rw [← hF4] at FD4 fb4 HR
    clear hF4
    have BG1 : Hid (∀ W, Calls Tryd.prog 51 #[.int .u32 F0, .int .u32 x.src, .int .i64 x.srcBits] W fun e w' => e = .returned (.bool (beginsM F0 x.src x.srcBits)) ∧ w' = W) := begins7_any _ _ _ fb0 hx.1
    have BG2 : Hid (∀ W, Calls Tryd.prog 51 #[.int .u32 F1, .int .u32 x.dst, .int .i64 x.dstBits] W fun e w' => e = .returned (.bool (beginsM F1 x.dst x.dstBits)) ∧ w' = W) := begins7_any _ _ _ fb1 hx.2
    have WI1 : Hid (∀ W, Calls Tryd.prog 53 #[.int .u32 F2, .int .i64 x.slow, .int .i64 x.shigh] W fun e w' => e = .returned (.bool (decide (x.slow ≤ F2) && decide (F2 ≤ x.shigh))) ∧ w' = W) := within_any _ _ _ fb2
    have WI2 : Hid (∀ W, Calls Tryd.prog 53 #[.int .u32 F3, .int .i64 x.dlow, .int .i64 x.dhigh] W fun e w' => e = .returned (.bool (decide (x.dlow ≤ F3) && decide (F3 ≤ x.dhigh))) ∧ w' = W) := within_any _ _ _ fb3
    have p41 := fb4.1
    have p42 := fb4.2
    have HP2 : Hid (0 ≤ F4 ∧ F4 < 4294967296) := fb4
    obtain ⟨c1, hc1⟩ : ∃ c, c = beginsM F0 x.src x.srcBits := ⟨_, rfl⟩
    obtain ⟨c2, hc2⟩ : ∃ c, c = beginsM F1 x.dst x.dstBits := ⟨_, rfl⟩
    obtain ⟨c3, hc3⟩ : ∃ c, c = (decide (x.slow ≤ F2) && decide (F2 ≤ x.shigh)) := ⟨_, rfl⟩
    obtain ⟨c4, hc4⟩ : ∃ c, c = (decide (x.dlow ≤ F3) && decide (F3 ≤ x.dhigh)) := ⟨_, rfl⟩
    rw [← hc1] at BG1 HR
    rw [← hc2] at BG2 HR
    rw [← hc3] at WI1 HR
    rw [← hc4] at WI2 HR
    clear hc1 hc2 hc3 hc4 fb0 fb1 fb2 fb3 fb4 PA pa hP hp BA hx hd
    have l2 : ∀ u : Later Wa, u.world.cell? ⟨w.heap.size, 2, none⟩ = some (.int .u32 x.src) := later_cell7 b1 rfl
    have l3 : ∀ u : Later Wa, u.world.cell? ⟨w.heap.size, 3, none⟩ = some (.int .i64 x.srcBits) := later_cell7 b1 rfl
    have l4 : ∀ u : Later Wa, u.world.cell? ⟨w.heap.size, 4, none⟩ = some (.int .u32 x.dst) := later_cell7 b1 rfl
    have l5 : ∀ u : Later Wa, u.world.cell? ⟨w.heap.size, 5, none⟩ = some (.int .i64 x.dstBits) := later_cell7 b1 rfl
    have l6 : ∀ u : Later Wa, u.world.cell? ⟨w.heap.size, 6, none⟩ = some (.int .i64 x.slow) := later_cell7 b1 rfl
    have l7 : ∀ u : Later Wa, u.world.cell? ⟨w.heap.size, 7, none⟩ = some (.int .i64 x.shigh) := later_cell7 b1 rfl
    have l8 : ∀ u : Later Wa, u.world.cell? ⟨w.heap.size, 8, none⟩ = some (.int .i64 x.dlow) := later_cell7 b1 rfl
    have l9 : ∀ u : Later Wa, u.world.cell? ⟨w.heap.size, 9, none⟩ = some (.int .i64 x.dhigh) := later_cell7 b1 rfl
    have l10 : ∀ u : Later Wa, u.world.cell? ⟨w.heap.size, 10, none⟩ = some (.int .i64 x.proto) := later_cell7 b1 rfl
    have ne1 := Later.ne Wa
    cases c1 with
    | false =>
      rw [hWa] at HBA
      go_enter Tryd.func37, Tryd.ntmps37
      go_wp2_with fail
      rw [← hWa]
      refine wp_region_later (by kernel_rfl) (by kernel_rfl) ?_
      refine qlH rfl _ rfl (w.heap.size + 1) rfl L b2 hl ?_
      simp only [Act.put, List.setIfInBounds_toArray, List.set_cons_succ, List.set_cons_zero]
      go_big_quiet_want; go_big_quiet_op
      refine ⟨_, fun u => Calls.later_of (FD0.out u), ?_⟩
      go_big_quiet_on
      go_big_quiet_step (rfl)
      go_big_quiet_step (rfl)
      go_big_quiet_step (rfl)
      go_big_quiet_step (rfl)
      go_big_quiet_want; go_big_quiet_op
      refine ⟨_, fun u => Calls.later_same (BG1.out u.world), ?_⟩
      go_big_quiet_on
      go_big_quiet_step (rfl)
      go_big_quiet_step (rfl)
      go_big_quiet_step (rfl)
      go_big_quiet_step (rfl)
      go_big_quiet_step (rfl)
      go_big_quiet_step (rfl)
      go_big_quiet_step (rfl)
      go_big_quiet_step (rfl)
      go_big_quiet_step (rfl)
      go_big_quiet_step (rfl)
      go_big_quiet_step (rfl)
      go_big_quiet_step (rfl)
      go_big_quiet_step (rfl)
      go_big_quiet_step (rfl)
      go_big_quiet_step (rfl)
      go_big_quiet_step (rfl)
      go_big_quiet_step (rfl)
      go_big_quiet_step (rfl)
      go_big_quiet_step (rfl)
      go_big_quiet_step (rfl)
      go_big_quiet_step (rfl)
      go_big_quiet_step (rfl)
      go_big_quiet_step (rfl)
      go_big_quiet_step (rfl)
      go_big_quiet_step (rfl)
      go_big_quiet_step (rfl)
      go_big_quiet_step (rfl)
      go_big_quiet_step (rfl)
      go_big_quiet_step (rfl)
      go_big_quiet_step (rfl)
      go_big_quiet_step (rfl)
      go_big_quiet_step (rfl)
      go_big_quiet_step (rfl)
      go_big_quiet_step (rfl)
      go_big_quiet_step (rfl)
      go_big_quiet_step (rfl)
      go_big_quiet_step (rfl)
      go_big_quiet_step (rfl)
      go_big_quiet_step (rfl)
      go_big_quiet_step (rfl)
      go_big_quiet_step (rfl)
      refine wpQuiet_nil ?_
      rintro w' ⟨v, rfl⟩
      go_wp2_with fail
      go_ret
      rw [HR.out]
      rw [← hWa] at HBA
      refine ⟨?_, HBA.out.trans (v.below.mono HBA.out.size)⟩
      simp
    | true =>
      cases c2 with
      | false =>
        rw [hWa] at HBA
        go_enter Tryd.func37, Tryd.ntmps37
        go_wp2_with fail
        rw [← hWa]
        refine wp_region_later (by kernel_rfl) (by kernel_rfl) ?_
        refine qlH rfl _ rfl (w.heap.size + 1) rfl L b2 hl ?_
        simp only [Act.put, List.setIfInBounds_toArray, List.set_cons_succ, List.set_cons_zero]
        go_big_quiet_want; go_big_quiet_op
        refine ⟨_, fun u => Calls.later_of (FD0.out u), ?_⟩
        go_big_quiet_on
        go_big_quiet_step (rfl)
        go_big_quiet_step (rfl)
        go_big_quiet_step (rfl)
        go_big_quiet_step (rfl)
        go_big_quiet_want; go_big_quiet_op
        refine ⟨_, fun u => Calls.later_same (BG1.out u.world), ?_⟩
        go_big_quiet_on
        go_big_quiet_step (rfl)
        refine qlH rfl _ rfl (w.heap.size + 1) rfl L b2 hl ?_
        simp only [Act.put, List.setIfInBounds_toArray, List.set_cons_succ, List.set_cons_zero]
        go_big_quiet_want; go_big_quiet_op
        refine ⟨_, fun u => Calls.later_of (FD1.out u), ?_⟩
        go_big_quiet_on
        go_big_quiet_step (rfl)
        go_big_quiet_step (rfl)
        go_big_quiet_step (rfl)
        go_big_quiet_step (rfl)
        go_big_quiet_want; go_big_quiet_op
        refine ⟨_, fun u => Calls.later_same (BG2.out u.world), ?_⟩
        go_big_quiet_on
        go_big_quiet_step (rfl)
        go_big_quiet_step (rfl)
        go_big_quiet_step (rfl)
        go_big_quiet_step (rfl)
        go_big_quiet_step (rfl)
        go_big_quiet_step (rfl)
        go_big_quiet_step (rfl)
        go_big_quiet_step (rfl)
        go_big_quiet_step (rfl)
        go_big_quiet_step (rfl)
        go_big_quiet_step (rfl)
        go_big_quiet_step (rfl)
        go_big_quiet_step (rfl)
        go_big_quiet_step (rfl)
        go_big_quiet_step (rfl)
        go_big_quiet_step (rfl)
        go_big_quiet_step (rfl)
        go_big_quiet_step (rfl)
        go_big_quiet_step (rfl)
        go_big_quiet_step (rfl)
        go_big_quiet_step (rfl)
        go_big_quiet_step (rfl)
        go_big_quiet_step (rfl)
        go_big_quiet_step (rfl)
        go_big_quiet_step (rfl)
        go_big_quiet_step (rfl)
        go_big_quiet_step (rfl)
        go_big_quiet_step (rfl)
        go_big_quiet_step (rfl)
        go_big_quiet_step (rfl)
        go_big_quiet_step (rfl)
        go_big_quiet_step (rfl)
        go_big_quiet_step (rfl)
        refine wpQuiet_nil ?_
        rintro w' ⟨v, rfl⟩
        go_wp2_with fail
        go_ret
        rw [HR.out]
        rw [← hWa] at HBA
        refine ⟨?_, HBA.out.trans (v.below.mono HBA.out.size)⟩
        simp
      | true =>
        cases c3 with
        | false =>
          rw [hWa] at HBA
          go_enter Tryd.func37, Tryd.ntmps37
          go_wp2_with fail
          rw [← hWa]
          refine wp_region_later (by kernel_rfl) (by kernel_rfl) ?_
          refine qlH rfl _ rfl (w.heap.size + 1) rfl L b2 hl ?_
          simp only [Act.put, List.setIfInBounds_toArray, List.set_cons_succ, List.set_cons_zero]
          go_big_quiet_want; go_big_quiet_op
          refine ⟨_, fun u => Calls.later_of (FD0.out u), ?_⟩
          go_big_quiet_on
          go_big_quiet_step (rfl)
          go_big_quiet_step (rfl)
          go_big_quiet_step (rfl)
          go_big_quiet_step (rfl)
          go_big_quiet_want; go_big_quiet_op
          refine ⟨_, fun u => Calls.later_same (BG1.out u.world), ?_⟩
          go_big_quiet_on
          go_big_quiet_step (rfl)
          refine qlH rfl _ rfl (w.heap.size + 1) rfl L b2 hl ?_
          simp only [Act.put, List.setIfInBounds_toArray, List.set_cons_succ, List.set_cons_zero]
          go_big_quiet_want; go_big_quiet_op
          refine ⟨_, fun u => Calls.later_of (FD1.out u), ?_⟩
          go_big_quiet_on
          go_big_quiet_step (rfl)
          go_big_quiet_step (rfl)
          go_big_quiet_step (rfl)
          go_big_quiet_step (rfl)
          go_big_quiet_want; go_big_quiet_op
          refine ⟨_, fun u => Calls.later_same (BG2.out u.world), ?_⟩
          go_big_quiet_on
          go_big_quiet_step (rfl)
          go_big_quiet_step (rfl)
          refine qlH rfl _ rfl (w.heap.size + 1) rfl L b2 hl ?_
          simp only [Act.put, List.setIfInBounds_toArray, List.set_cons_succ, List.set_cons_zero]
          go_big_quiet_want; go_big_quiet_op
          refine ⟨_, fun u => Calls.later_of (FD2.out u), ?_⟩
          go_big_quiet_on
          go_big_quiet_step (rfl)
          go_big_quiet_step (rfl)
          go_big_quiet_step (rfl)
          go_big_quiet_step (rfl)
          go_big_quiet_want; go_big_quiet_op
          refine ⟨_, fun u => Calls.later_same (WI1.out u.world), ?_⟩
          go_big_quiet_on
          go_big_quiet_step (rfl)
          go_big_quiet_step (rfl)
          go_big_quiet_step (rfl)
          go_big_quiet_step (rfl)
          go_big_quiet_step (rfl)
          go_big_quiet_step (rfl)
          go_big_quiet_step (rfl)
          go_big_quiet_step (rfl)
          go_big_quiet_step (rfl)
          go_big_quiet_step (rfl)
          go_big_quiet_step (rfl)
          go_big_quiet_step (rfl)
          go_big_quiet_step (rfl)
          go_big_quiet_step (rfl)
          go_big_quiet_step (rfl)
          go_big_quiet_step (rfl)
          go_big_quiet_step (rfl)
          go_big_quiet_step (rfl)
          go_big_quiet_step (rfl)
          go_big_quiet_step (rfl)
          go_big_quiet_step (rfl)
          go_big_quiet_step (rfl)
          go_big_quiet_step (rfl)
          go_big_quiet_step (rfl)
          refine wpQuiet_nil ?_
          rintro w' ⟨v, rfl⟩
          go_wp2_with fail
          go_ret
          rw [HR.out]
          rw [← hWa] at HBA
          refine ⟨?_, HBA.out.trans (v.below.mono HBA.out.size)⟩
          simp
        | true =>
          cases c4 with
          | false =>
            rw [hWa] at HBA
            go_enter Tryd.func37, Tryd.ntmps37
            go_wp2_with fail
            rw [← hWa]
            refine wp_region_later (by kernel_rfl) (by kernel_rfl) ?_
            refine qlH rfl _ rfl (w.heap.size + 1) rfl L b2 hl ?_
            simp only [Act.put, List.setIfInBounds_toArray, List.set_cons_succ, List.set_cons_zero]
            go_big_quiet_want; go_big_quiet_op
            refine ⟨_, fun u => Calls.later_of (FD0.out u), ?_⟩
            go_big_quiet_on
            go_big_quiet_step (rfl)
            go_big_quiet_step (rfl)
            go_big_quiet_step (rfl)
            go_big_quiet_step (rfl)
            go_big_quiet_want; go_big_quiet_op
            refine ⟨_, fun u => Calls.later_same (BG1.out u.world), ?_⟩
            go_big_quiet_on
            go_big_quiet_step (rfl)
            refine qlH rfl _ rfl (w.heap.size + 1) rfl L b2 hl ?_
            simp only [Act.put, List.setIfInBounds_toArray, List.set_cons_succ, List.set_cons_zero]
            go_big_quiet_want; go_big_quiet_op
            refine ⟨_, fun u => Calls.later_of (FD1.out u), ?_⟩
            go_big_quiet_on
            go_big_quiet_step (rfl)
            go_big_quiet_step (rfl)
            go_big_quiet_step (rfl)
            go_big_quiet_step (rfl)
            go_big_quiet_want; go_big_quiet_op
            refine ⟨_, fun u => Calls.later_same (BG2.out u.world), ?_⟩
            go_big_quiet_on
            go_big_quiet_step (rfl)
            go_big_quiet_step (rfl)
            refine qlH rfl _ rfl (w.heap.size + 1) rfl L b2 hl ?_
            simp only [Act.put, List.setIfInBounds_toArray, List.set_cons_succ, List.set_cons_zero]
            go_big_quiet_want; go_big_quiet_op
            refine ⟨_, fun u => Calls.later_of (FD2.out u), ?_⟩
            go_big_quiet_on
            go_big_quiet_step (rfl)
            go_big_quiet_step (rfl)
            go_big_quiet_step (rfl)
            go_big_quiet_step (rfl)
            go_big_quiet_want; go_big_quiet_op
            refine ⟨_, fun u => Calls.later_same (WI1.out u.world), ?_⟩
            go_big_quiet_on
            go_big_quiet_step (rfl)
            go_big_quiet_step (rfl)
            refine qlH rfl _ rfl (w.heap.size + 1) rfl L b2 hl ?_
            simp only [Act.put, List.setIfInBounds_toArray, List.set_cons_succ, List.set_cons_zero]
            go_big_quiet_want; go_big_quiet_op
            refine ⟨_, fun u => Calls.later_of (FD3.out u), ?_⟩
            go_big_quiet_on
            go_big_quiet_step (rfl)
            go_big_quiet_step (rfl)
            go_big_quiet_step (rfl)
            go_big_quiet_step (rfl)
            go_big_quiet_want; go_big_quiet_op
            refine ⟨_, fun u => Calls.later_same (WI2.out u.world), ?_⟩
            go_big_quiet_on
            go_big_quiet_step (rfl)
            go_big_quiet_step (rfl)
            go_big_quiet_step (rfl)
            go_big_quiet_step (rfl)
            go_big_quiet_step (rfl)
            go_big_quiet_step (rfl)
            go_big_quiet_step (rfl)
            go_big_quiet_step (rfl)
            go_big_quiet_step (rfl)
            go_big_quiet_step (rfl)
            go_big_quiet_step (rfl)
            go_big_quiet_step (rfl)
            go_big_quiet_step (rfl)
            go_big_quiet_step (rfl)
            go_big_quiet_step (rfl)
            refine wpQuiet_nil ?_
            rintro w' ⟨v, rfl⟩
            go_wp2_with fail
            go_ret
            rw [HR.out]
            rw [← hWa] at HBA
            refine ⟨?_, HBA.out.trans (v.below.mono HBA.out.size)⟩
            simp
          | true =>
            by_cases p1 : x.proto = -1
            · have p1' : (x.proto == -1) = true := by simp [p1]
              rw [hWa] at HBA
              have P1 : Hid (x.proto = -1) := p1
              clear p1
              go_enter Tryd.func37, Tryd.ntmps37
              go_wp2_with fail
              rw [← hWa]
              refine wp_region_later (by kernel_rfl) (by kernel_rfl) ?_
              refine qlH rfl _ rfl (w.heap.size + 1) rfl L b2 hl ?_
              simp only [Act.put, List.setIfInBounds_toArray, List.set_cons_succ, List.set_cons_zero]
              go_big_quiet_want; go_big_quiet_op
              refine ⟨_, fun u => Calls.later_of (FD0.out u), ?_⟩
              go_big_quiet_on
              go_big_quiet_step (rfl)
              go_big_quiet_step (rfl)
              go_big_quiet_step (rfl)
              go_big_quiet_step (rfl)
              go_big_quiet_want; go_big_quiet_op
              refine ⟨_, fun u => Calls.later_same (BG1.out u.world), ?_⟩
              go_big_quiet_on
              go_big_quiet_step (rfl)
              refine qlH rfl _ rfl (w.heap.size + 1) rfl L b2 hl ?_
              simp only [Act.put, List.setIfInBounds_toArray, List.set_cons_succ, List.set_cons_zero]
              go_big_quiet_want; go_big_quiet_op
              refine ⟨_, fun u => Calls.later_of (FD1.out u), ?_⟩
              go_big_quiet_on
              go_big_quiet_step (rfl)
              go_big_quiet_step (rfl)
              go_big_quiet_step (rfl)
              go_big_quiet_step (rfl)
              go_big_quiet_want; go_big_quiet_op
              refine ⟨_, fun u => Calls.later_same (BG2.out u.world), ?_⟩
              go_big_quiet_on
              go_big_quiet_step (rfl)
              go_big_quiet_step (rfl)
              refine qlH rfl _ rfl (w.heap.size + 1) rfl L b2 hl ?_
              simp only [Act.put, List.setIfInBounds_toArray, List.set_cons_succ, List.set_cons_zero]
              go_big_quiet_want; go_big_quiet_op
              refine ⟨_, fun u => Calls.later_of (FD2.out u), ?_⟩
              go_big_quiet_on
              go_big_quiet_step (rfl)
              go_big_quiet_step (rfl)
              go_big_quiet_step (rfl)
              go_big_quiet_step (rfl)
              go_big_quiet_want; go_big_quiet_op
              refine ⟨_, fun u => Calls.later_same (WI1.out u.world), ?_⟩
              go_big_quiet_on
              go_big_quiet_step (rfl)
              go_big_quiet_step (rfl)
              refine qlH rfl _ rfl (w.heap.size + 1) rfl L b2 hl ?_
              simp only [Act.put, List.setIfInBounds_toArray, List.set_cons_succ, List.set_cons_zero]
              go_big_quiet_want; go_big_quiet_op
              refine ⟨_, fun u => Calls.later_of (FD3.out u), ?_⟩
              go_big_quiet_on
              go_big_quiet_step (rfl)
              go_big_quiet_step (rfl)
              go_big_quiet_step (rfl)
              go_big_quiet_step (rfl)
              go_big_quiet_want; go_big_quiet_op
              refine ⟨_, fun u => Calls.later_same (WI2.out u.world), ?_⟩
              go_big_quiet_on
              go_big_quiet_step (rfl)
              go_big_quiet_step (rfl)
              go_big_quiet_step (rfl)
              go_big_quiet_step (rfl)
              go_big_quiet_step (rfl)
              go_big_quiet_step (rfl)
              go_big_quiet_step (rfl)
              go_big_quiet_step (rfl)
              go_big_quiet_step (rfl)
              go_big_quiet_step (rfl)
              go_big_quiet_step (rfl)
              go_big_quiet_step (rfl)
              go_big_quiet_step (rfl)
              go_big_quiet_step (rfl)
              go_big_quiet_step (rfl)
              refine wpQuiet_nil ?_
              rintro w' ⟨v, rfl⟩
              go_wp2_with fail
              go_ret
              rw [HR.out]
              rw [← hWa] at HBA
              refine ⟨?_, HBA.out.trans (v.below.mono HBA.out.size)⟩
              rw [P1.out]
              rfl
            · have p1' : (x.proto == -1) = false := by simp [p1]
              rw [hWa] at HBA
              have P1 : Hid ((x.proto == -1) = false) := p1'
              clear p1
              go_enter Tryd.func37, Tryd.ntmps37
              go_wp2_with fail
              rw [← hWa]
              refine wp_region_later (by kernel_rfl) (by kernel_rfl) ?_
              refine qlH rfl _ rfl (w.heap.size + 1) rfl L b2 hl ?_
              simp only [Act.put, List.setIfInBounds_toArray, List.set_cons_succ, List.set_cons_zero]
              go_big_quiet_want; go_big_quiet_op
              refine ⟨_, fun u => Calls.later_of (FD0.out u), ?_⟩
              go_big_quiet_on
              go_big_quiet_step (rfl)
              go_big_quiet_step (rfl)
              go_big_quiet_step (rfl)
              go_big_quiet_step (rfl)
              go_big_quiet_want; go_big_quiet_op
              refine ⟨_, fun u => Calls.later_same (BG1.out u.world), ?_⟩
              go_big_quiet_on
              go_big_quiet_step (rfl)
              refine qlH rfl _ rfl (w.heap.size + 1) rfl L b2 hl ?_
              simp only [Act.put, List.setIfInBounds_toArray, List.set_cons_succ, List.set_cons_zero]
              go_big_quiet_want; go_big_quiet_op
              refine ⟨_, fun u => Calls.later_of (FD1.out u), ?_⟩
              go_big_quiet_on
              go_big_quiet_step (rfl)
              go_big_quiet_step (rfl)
              go_big_quiet_step (rfl)
              go_big_quiet_step (rfl)
              go_big_quiet_want; go_big_quiet_op
              refine ⟨_, fun u => Calls.later_same (BG2.out u.world), ?_⟩
              go_big_quiet_on
              go_big_quiet_step (rfl)
              go_big_quiet_step (rfl)
              refine qlH rfl _ rfl (w.heap.size + 1) rfl L b2 hl ?_
              simp only [Act.put, List.setIfInBounds_toArray, List.set_cons_succ, List.set_cons_zero]
              go_big_quiet_want; go_big_quiet_op
              refine ⟨_, fun u => Calls.later_of (FD2.out u), ?_⟩
              go_big_quiet_on
              go_big_quiet_step (rfl)
              go_big_quiet_step (rfl)
              go_big_quiet_step (rfl)
              go_big_quiet_step (rfl)
              go_big_quiet_want; go_big_quiet_op
              refine ⟨_, fun u => Calls.later_same (WI1.out u.world), ?_⟩
              go_big_quiet_on
              go_big_quiet_step (rfl)
              go_big_quiet_step (rfl)
              refine qlH rfl _ rfl (w.heap.size + 1) rfl L b2 hl ?_
              simp only [Act.put, List.setIfInBounds_toArray, List.set_cons_succ, List.set_cons_zero]
              go_big_quiet_want; go_big_quiet_op
              refine ⟨_, fun u => Calls.later_of (FD3.out u), ?_⟩
              go_big_quiet_on
              go_big_quiet_step (rfl)
              go_big_quiet_step (rfl)
              go_big_quiet_step (rfl)
              go_big_quiet_step (rfl)
              go_big_quiet_want; go_big_quiet_op
              refine ⟨_, fun u => Calls.later_same (WI2.out u.world), ?_⟩
              go_big_quiet_on
              go_big_quiet_step (rfl)
              go_big_quiet_step (rfl)
              go_big_quiet_step (rfl)
              go_big_quiet_step (rfl)
              go_big_quiet_step (rfl)
              go_big_quiet_step (rfl)
              go_big_quiet_step (rfl)
              go_big_quiet_step (rfl)
              refine qlH rfl _ rfl (w.heap.size + 1) rfl L b2 hl ?_
              simp only [Act.put, List.setIfInBounds_toArray, List.set_cons_succ, List.set_cons_zero]
              go_big_quiet_want; go_big_quiet_op
              refine ⟨_, fun u => Calls.later_of (FD4.out u), ?_⟩
              go_big_quiet_on
              go_big_quiet_step (rfl)
              go_big_quiet_step (rfl)
              go_big_quiet_step (rfl)
              go_big_quiet_step (rfl)
              go_big_quiet_step (rfl)
              refine wpQuiet_nil ?_
              rintro w' ⟨v, rfl⟩
              go_wp2_with fail
              go_ret
              rw [HR.out]
              rw [← hWa] at HBA
              refine ⟨?_, HBA.out.trans (v.below.mono HBA.out.size)⟩
              rw [P1.out]
              simp
end Go.Proofs.YtbdbjbmjnemknaaDoor
namespace Go.Proofs.YtbdbjbmjnemknaaDoor
open Go Go.RowKit
set_option maxRecDepth 20000

theorem ent_prio {x : Ent} {cur : Array Value} {off k : Nat} (h : ∀ j, j < 12 → cur[off + k * 12 + j]? = (entV x)[j]?) : cur[off + k * 12 + 1]? = some (.int .i64 x.prio) := h 1 (by decide)
theorem ent_act {x : Ent} {cur : Array Value} {off k : Nat} (h : ∀ j, j < 12 → cur[off + k * 12 + j]? = (entV x)[j]?) : cur[off + k * 12 + 11]? = some (.int .i64 x.action) := h 11 (by decide)
theorem step_no {ap : Ent → Bool} {b : Option (Nat × Int)} {i : Nat} {x : Ent} (h : (!x.dflt && ap x && beats x.prio b) = false) : stepB ap b i x = b := by unfold stepB; rw [h]; rfl
theorem step_yes {ap : Ent → Bool} {b : Option (Nat × Int)} {i : Nat} {x : Ent} (h : (!x.dflt && ap x && beats x.prio b) = true) : stepB ap b i x = some (i, x.prio) := by unfold stepB; rw [h]; rfl

set_option maxHeartbeats 16000000 in
set_option maxRecDepth 100000 in
theorem which_any (l : List Ent) (vl : Value) (w : World) (hl : EntsAt w vl l) (h32 : ∀ x ∈ l, ent32 x) (L : List Int) (hL : Byt L) (hP : Places w) :
    Calls Tryd.prog 19 #[vl, .agg (hv L)] w fun e w' => e = .returned (.int .i64 (whichI (applyT L) l)) ∧ Below w.heap.size w w' := by
  have hLl := hL.1
  have hp := hP.pos
  have AP : Hid (∀ (x : Ent) W, ent32 x → Below w.heap.size w W → Calls Tryd.prog 37 #[.agg (entV x), .agg (hv L)] W fun e w' => e = .returned (.bool (applyT L x)) ∧ Below W.heap.size W w') := fun x W h1 h2 => applies_any x h1 L hL W (hP.later hp h2)
  obtain ⟨o, cap, rfl, hc1, hc2⟩ := GSl.slice hl
  obtain ⟨n, hn⟩ : ∃ n, n = l.length := ⟨_, rfl⟩
  have HN : Hid (n = l.length) := hn
  rw [← hn] at hl hc1 ⊢
  have HL : Hid (EntsAt w (.slice o n cap) l) := hl
  have H32 : Hid (∀ x ∈ l, ent32 x) := h32
  unfold maxLen at hc2
  have HW : Hid (whichI (applyT L) l = if bestI (bestK (applyT L) l n) < 0 then atW (restK l n) else bestI (bestK (applyT L) l n)) := by rw [HN.out]; exact whichI_eq _ _
  obtain ⟨ap, hap⟩ : ∃ ap, ap = applyT L := ⟨_, rfl⟩
  rw [← hap] at HW AP ⊢
  have KN : Hid ((w.alloc (.cells (hv L) 34)).heap[w.heap.size]? = some (.cells (hv L) 34 (0, 0)) ∧ Below w.heap.size w (w.alloc (.cells (hv L) 34))) := ⟨heap_new _ _ _ rfl, (Below.refl _ _).alloc (Nat.le_refl _) _⟩
  clear hl hn h32 hP hp hap
  go_enter Tryd.func19, Tryd.ntmps19
  go_wp2_with fail
  go_loopw [5, 6, 11] (fun ru re i wr => ∃ k : Nat, k ≤ n ∧ i = .int .i64 (k : Int) ∧ ru = .int .i64 (bestI (bestK ap l k)) ∧ re = .int .i64 (atW (restK l k)) ∧ wr.heap[w.heap.size]? = some (.cells (hv L) 34 (0, 0)) ∧ Below w.heap.size w wr) (fun _ _ i _ => n - (intOf i).toNat)
  case atStart => exact ⟨0, Nat.zero_le _, rfl, rfl, rfl, KN.out.1, KN.out.2⟩
  case round =>
    clear KN
    obtain ⟨k, hk, rfl, rfl, rfl, hr1, hb⟩ := hrel
    have R1 : Hid (wr.heap[w.heap.size]? = some (.cells (hv L) 34 (0, 0))) := hr1
    have HB : Hid (Below w.heap.size w wr) := hb
    clear hr1 hb
    by_cases hlt : k < n
    · have hlt' : (k : Int) < (n : Int) := by omega
      obtain ⟨g, off, cur, ty, fr, x, rfl, hg, hc, hxk⟩ := (GSl.below HL.out HB.out).at k hlt
      have K1 : Hid (wr.heap[g]? = some (.cells cur ty fr)) := hg
      have H1 : Hid (∀ j, j < 12 → cur[off + k * 12 + j]? = (entV x)[j]?) := hc
      have HX : Hid (ent32 x) := H32.out x (List.mem_of_getElem? hxk)
      have BX : Hid (bestK ap l (k + 1) = stepB ap (bestK ap l k) k x) := bestK_next ap hxk
      have RX : Hid (restK l (k + 1) = (restK l k).or (if x.dflt then some k else none)) := restK_next hxk
      have KN : Hid ((wr.alloc (.cells (entV x) 45)).heap[wr.heap.size]? = some (.cells (entV x) 45 (0, 0))) := heap_new _ _ _ rfl
      have BN : Hid (Below wr.heap.size wr (wr.alloc (.cells (entV x) 45))) := (Below.refl _ _).alloc (Nat.le_refl _) _
      have RN : Hid ((wr.alloc (.cells (entV x) 45)).heap[w.heap.size]? = some (.cells (hv L) 34 (0, 0))) := heap_past _ _ _ _ R1.out
      have BWN : Hid (Below w.heap.size w (wr.alloc (.cells (entV x) 45))) := HB.out.trans (BN.out.mono HB.out.size)
      have d0 := (ent_f KN.out).1
      have HLK : Hid (∀ j p, bestK ap l k = some (j, p) → ∃ y, l[j]? = some y ∧ y.prio = p ∧ j < k) := fun j p h => by
        obtain ⟨y, h1, h2, _, _, h5⟩ := bestK_in ap h
        exact ⟨y, h1, h2, h5⟩
      clear hg hc hxk
      cases hd : x.dflt with
      | true =>
        rw [hd] at d0 RX
        have hstep : bestK ap l (k + 1) = bestK ap l k := by rw [BX.out, step_no (by rw [hd]; rfl)]
        have HST : Hid (bestK ap l (k + 1) = bestK ap l k) := hstep
        clear hstep hd
        cases hre : restK l k with
        | none =>
          rw [hre] at RX
          have HRE : Hid (restK l (k + 1) = some k) := RX.out
          rw [show atW none = -1 from rfl]
          go_wp2_with (first
            | (refine wl_loadE (E := EntE) EntOk rfl _ rfl g (off + k * 12) rfl cur ty fr (entV x) rfl K1.out H1.out ?_)
            | (refine wl_storeE (E := EntE) EntOk rfl _ _ rfl wr.heap.size (entV x) (ent_fits _) rfl rfl _ (heap_new _ _ _ rfl) rfl _ (setRow_new _ _ _ _ _ rfl) ?_))
          go_roundw
          case rel => exact ⟨k + 1, by omega, by go_num, by rw [HST.out], by rw [HRE.out]; rfl, RN.out, BWN.out⟩
          case measure => simp [intOf]; omega
        | some j =>
          rw [hre] at RX
          have HRE : Hid (restK l (k + 1) = some j) := RX.out
          rw [show atW (some j) = (j : Int) from rfl]
          have hj0 : ¬ (j : Int) < 0 := by omega
          clear hre
          go_wp2_with (first
            | (refine wl_loadE (E := EntE) EntOk rfl _ rfl g (off + k * 12) rfl cur ty fr (entV x) rfl K1.out H1.out ?_)
            | (refine wl_storeE (E := EntE) EntOk rfl _ _ rfl wr.heap.size (entV x) (ent_fits _) rfl rfl _ (heap_new _ _ _ rfl) rfl _ (setRow_new _ _ _ _ _ rfl) ?_))
          go_roundw
          case rel => exact ⟨k + 1, by omega, by go_num, by rw [HST.out], by rw [HRE.out]; rfl, RN.out, BWN.out⟩
          case measure => simp [intOf]; omega
      | false =>
        rw [hd] at d0 RX
        have HRE : Hid (restK l (k + 1) = restK l k) := by
          show _ = _
          rw [RX.out]
          cases restK l k <;> rfl
        have HDF : Hid (x.dflt = false) := hd
        clear hd
        obtain ⟨re, hre⟩ : ∃ re, re = atW (restK l k) := ⟨_, rfl⟩
        have HRR : Hid (re = atW (restK l (k + 1))) := by rw [HRE.out]; exact hre
        rw [← hre]
        clear hre
        go_wp2_with (first
          | (refine wl_loadE (E := EntE) EntOk rfl _ rfl g (off + k * 12) rfl cur ty fr (entV x) rfl K1.out H1.out ?_)
          | (refine wl_storeE (E := EntE) EntOk rfl _ _ rfl wr.heap.size (entV x) (ent_fits _) rfl rfl _ (heap_new _ _ _ rfl) rfl _ (setRow_new _ _ _ _ _ rfl) ?_)
          | (refine wl_loadE (E := EntE) EntOk rfl _ rfl wr.heap.size 0 rfl _ _ _ (entV x) rfl KN.out (own_cells _ _) ?_)
          | (refine wl_load26 rfl _ rfl w.heap.size rfl L RN.out hLl ?_))
        refine (AP.out x _ HX.out BWN.out).mono ?_
        rintro e w1 ⟨rfl, hb1⟩
        have R2 : Hid (w1.heap[w.heap.size]? = some (.cells (hv L) 34 (0, 0))) := (hb1.block _ (Array.getElem?_eq_some_iff.1 RN.out).1).trans RN.out
        have B2 : Hid (Below w.heap.size w w1) := BWN.out.trans (hb1.mono BWN.out.size)
        have k2 : w1.heap[wr.heap.size]? = some (.cells (entV x) 45 (0, 0)) := (hb1.block _ (by simp)).trans KN.out
        have BR : Hid (Below wr.heap.size wr w1) := BN.out.trans (hb1.mono BN.out.size)
        clear hb1 d0
        cases ha : ap x with
        | false =>
          have HST : Hid (bestK ap l (k + 1) = bestK ap l k) := by
            show _ = _
            rw [BX.out, step_no (by rw [ha]; simp)]
          clear ha
          obtain ⟨be, hbe⟩ : ∃ be, be = bestI (bestK ap l k) := ⟨_, rfl⟩
          have HBE : Hid (be = bestI (bestK ap l (k + 1))) := by rw [HST.out]; exact hbe
          rw [← hbe]
          clear hbe
          go_wp2_with fail
          go_roundw
          case rel => exact ⟨k + 1, by omega, by go_num, by rw [HBE.out], by rw [HRR.out], R2.out, B2.out⟩
          case measure => simp [intOf]; omega
        | true =>
          have HAP : Hid (ap x = true) := ha
          clear ha
          cases hbe : bestK ap l k with
          | none =>
            have HST : Hid (bestK ap l (k + 1) = some (k, x.prio)) := by
              show _ = _
              rw [BX.out, step_yes (by rw [HDF.out, HAP.out, hbe]; rfl)]
            clear hbe
            rw [show bestI none = -1 from rfl]
            have lp : ∀ u : Later w1, u.world.cell? ⟨wr.heap.size, 1, none⟩ = some (.int .i64 x.prio) := later_cell7 k2 rfl
            go_wp2_with fail
            have ne1 := Later.ne w1
            refine wp_region_later (by kernel_rfl) (by kernel_rfl) ?_
            repeat go_big_quiet_step (rfl)
            refine wpQuiet_nil ?_
            rintro w' ⟨v, rfl⟩
            have R3 : Hid (v.world.heap[w.heap.size]? = some (.cells (hv L) 34 (0, 0))) := later_block R2.out _ ⟨v, rfl⟩
            have B3 : Hid (Below w.heap.size w v.world) := B2.out.trans (v.below.mono B2.out.size)
            obtain ⟨W3, hW3⟩ : ∃ W3, W3 = v.world := ⟨_, rfl⟩
            rw [← hW3] at R3 B3 ⊢
            clear hW3 lp ne1
            go_wp2_with fail
            go_roundw
            case rel => exact ⟨k + 1, by omega, by go_num, by rw [HST.out]; rfl, by rw [HRR.out], R3.out, B3.out⟩
            case measure => simp [intOf]; omega
          | some bb =>
            obtain ⟨j, p⟩ := bb
            obtain ⟨y, hy, rfl, hjk⟩ := HLK.out j p hbe
            obtain ⟨g', off', cur', ty', fr', y', e0, hg', hc', hyj⟩ := (GSl.below HL.out HB.out).at j (by omega)
            simp only [Option.some.injEq, Addr.mk.injEq, and_true] at e0
            obtain ⟨rfl, rfl⟩ := e0
            obtain rfl : y = y' := Option.some.inj (hy.symm.trans hyj)
            have lg : ∀ u : Later w1, u.world.cell? ⟨g, off + j * 12 + 1, none⟩ = some (.int .i64 y.prio) := later_cell7 ((BR.out.block g (Array.getElem?_eq_some_iff.1 hg').1).trans hg') (ent_prio hc')
            have lp : ∀ u : Later w1, u.world.cell? ⟨wr.heap.size, 1, none⟩ = some (.int .i64 x.prio) := later_cell7 k2 rfl
            rw [show bestI (some (j, y.prio)) = (j : Int) from rfl]
            have hj0 : decide ((j : Int) < 0) = false := by simp
            have hj1 : (j : Int) < (n : Int) := by omega
            have hjn : j < n := by omega
            by_cases hgt : y.prio < x.prio
            · have hgt' : decide (x.prio > y.prio) = true := by simp; omega
              have HST : Hid (bestK ap l (k + 1) = some (k, x.prio)) := by
                show _ = _
                rw [BX.out, step_yes (by rw [HDF.out, HAP.out, hbe]; simp [beats, hgt])]
              clear hbe hy hyj hg' hc' hgt
              go_wp2_with fail
              have ne1 := Later.ne w1
              refine wp_region_later (by kernel_rfl) (by kernel_rfl) ?_
              repeat go_big_quiet_step (rfl)
              refine wpQuiet_nil ?_
              rintro w' ⟨v, rfl⟩
              have R3 : Hid (v.world.heap[w.heap.size]? = some (.cells (hv L) 34 (0, 0))) := later_block R2.out _ ⟨v, rfl⟩
              have B3 : Hid (Below w.heap.size w v.world) := B2.out.trans (v.below.mono B2.out.size)
              obtain ⟨W3, hW3⟩ : ∃ W3, W3 = v.world := ⟨_, rfl⟩
              rw [← hW3] at R3 B3 ⊢
              clear hW3 lp lg ne1
              go_wp2_with fail
              go_roundw
              case rel => exact ⟨k + 1, by omega, by go_num, by rw [HST.out]; rfl, by rw [HRR.out], R3.out, B3.out⟩
              case measure => simp [intOf]; omega
            · have hgt' : decide (x.prio > y.prio) = false := by simp; omega
              have HST : Hid (bestK ap l (k + 1) = some (j, y.prio)) := by
                show _ = _
                rw [BX.out, step_no (by rw [HDF.out, HAP.out, hbe]; simp [beats, hgt]), hbe]
              clear hbe hy hyj hg' hc' hgt
              go_wp2_with fail
              have ne1 := Later.ne w1
              refine wp_region_later (by kernel_rfl) (by kernel_rfl) ?_
              repeat go_big_quiet_step (rfl)
              refine wpQuiet_nil ?_
              rintro w' ⟨v, rfl⟩
              have R3 : Hid (v.world.heap[w.heap.size]? = some (.cells (hv L) 34 (0, 0))) := later_block R2.out _ ⟨v, rfl⟩
              have B3 : Hid (Below w.heap.size w v.world) := B2.out.trans (v.below.mono B2.out.size)
              obtain ⟨W3, hW3⟩ : ∃ W3, W3 = v.world := ⟨_, rfl⟩
              rw [← hW3] at R3 B3 ⊢
              clear hW3 lp lg ne1
              go_wp2_with fail
              go_roundw
              case rel => exact ⟨k + 1, by omega, by go_num, by rw [HST.out]; rfl, by rw [HRR.out], R3.out, B3.out⟩
              case measure => simp [intOf]; omega
    · have hlt' : (n : Int) ≤ (k : Int) := by omega
      obtain rfl : k = n := by omega
      clear hlt
      by_cases hneg : bestI (bestK ap l k) < 0
      · have HW2 : Hid (whichI ap l = atW (restK l k)) := by rw [HW.out]; exact if_pos hneg
        go_wp2_with fail
        go_ret
        exact ⟨by rw [HW2.out]; rfl, HB.out⟩
      · have HW2 : Hid (whichI ap l = bestI (bestK ap l k)) := by rw [HW.out]; exact if_neg hneg
        go_wp2_with fail
        go_ret
        exact ⟨by rw [HW2.out]; rfl, HB.out⟩
end Go.Proofs.YtbdbjbmjnemknaaDoor
namespace Go.Proofs.YtbdbjbmjnemknaaDoor
open Go Go.RowKit
set_option maxRecDepth 20000

def own15_ops : List Oper := [
      { dst := some 48, op := .fieldAddr 76 (.tmp 5) 2, type := 0, pos := "reader.go:110", after := #[], guard := none },
      { dst := some 49, op := .load 74 (.tmp 48), type := 74, pos := "reader.go:110", after := #[{ on := 0, ground := .data }], guard := none },
      { dst := some 50, op := .move (.tmp 0), type := 90, pos := "reader.go:110", after := #[], guard := none },
      { dst := some 51, op := .call { callee := .value (.func 59), args := #[.tmp 50], argTypes := #[90] }, type := 52, pos := "reader.go:110", after := #[{ on := 2, ground := .data }], guard := none },
      { dst := some 52, op := .buildSlice 74 1 #[(0, .tmp 51)], type := 74, pos := "reader.go:110", after := #[{ on := 3, ground := .data }], guard := none },
      { dst := some 53, op := .call { callee := .builtin .append, args := #[.tmp 49, .tmp 52], argTypes := #[74, 74] }, type := 74, pos := "reader.go:110", after := #[{ on := 1, ground := .data }, { on := 4, ground := .data }, { on := 3, ground := .chain }], guard := none },
      { dst := some 54, op := .fieldAddr 76 (.tmp 5) 2, type := 0, pos := "reader.go:110", after := #[{ on := 0, ground := .phase }, { on := 1, ground := .phase }, { on := 2, ground := .phase }, { on := 3, ground := .phase }, { on := 4, ground := .phase }, { on := 5, ground := .phase }], guard := none },
      { dst := none, op := .store 74 (.tmp 54) (.tmp 53), type := 0, pos := "reader.go:110", after := #[{ on := 6, ground := .data }, { on := 5, ground := .data }, { on := 5, ground := .chain }, { on := 0, ground := .phase }, { on := 1, ground := .phase }, { on := 2, ground := .phase }, { on := 3, ground := .phase }, { on := 4, ground := .phase }, { on := 5, ground := .phase }], guard := none }]
theorem own15_sizes (a : Act) (hs : 55 ≤ a.tmps.size) : (own15_ops.toArray).size = 8 ∧ 55 ≤ a.tmps.size := ⟨rfl, hs⟩

set_option maxHeartbeats 2000000 in
theorem own15_region {id : Nat} {Q : Exit → Act → World → Prop} {a : Act} {w : World} (hs : 55 ≤ a.tmps.size) (g p : Nat) (h0 : a.eval (.tmp 0) = .pointer (some ⟨g, 0, none⟩)) (hp : a.eval (.tmp 5) = .pointer (some ⟨p, 0, none⟩))
    (cs : Array Value) (hcs : w.heap[p]? = some (.cells cs 76 (0, 0))) (v : Value) (hv : cs[2]? = some v) (hpg : p ≠ g)
    (F : List Fig) (B : Nat) (hown : w.ownsRow B 52 2 v F.length (gcells figV F)) (hF : F.length ≤ 1000) (hB : B ≤ w.heap.size) (hgB : g < B) (c : Fig) (D : World → Prop)
    (hcall : Calls Tryd.prog 59 #[.pointer (some ⟨g, 0, none⟩)] w.drew fun e w' => e = .returned (.agg (figV c)) ∧ w.drew.grownBy w' (some g) ∧ D w')
    (hK : ∀ a' w1 w3 v', (∃ y0 y1 y2 y3 y4 y5 y6, a' = (((((((a.put (some 48) y0).put (some 49) y1).put (some 50) y2).put (some 51) y3).put (some 52) y4).put (some 53) y5).put (some 54) y6)) → D w1 → w.grownBy w1 (some g) → (w1.alloc (.cells (figV c) 52)).grownBy w3 v.ownBlock → w3.ownsRow B 52 2 v' (F ++ [c]).length (gcells figV (F ++ [c])) → w3.heap[p]? = some (.cells cs 76 (0, 0)) →
      Q .normal a' (w3.setCell ⟨p, 2, none⟩ v')) : (Code.region id own15_ops.toArray true).wp Tryd.prog Q a w := by
  have hfa : ∀ W, (Instr.fieldAt 76 (.pointer (some ⟨p, 0, none⟩)) 2).run Tryd.prog W = .ok (.pointer (some ⟨p, 2, none⟩)) W := fun W => by simp [go_sem]
  have hcell : ∀ W : World, W.heap[p]? = some (.cells cs 76 (0, 0)) → W.cell? ⟨p, 2, none⟩ = some v := fun W hW => by rw [cell_of_row _ _ _ _ _ _ hW]; exact hv
  have hplt := (Array.getElem?_eq_some_iff.1 hcs).1
  have keep : ∀ w1, w.drew.grownBy w1 (some g) → w1.heap[p]? = some (.cells cs 76 (0, 0)) := fun w1 hg => (hg.block p hplt (by simp; omega)).trans hcs
  have hvp : v.ownBlock ≠ some p := fun hq => by
    obtain ⟨_, ⟨rfl, _⟩ | ⟨g', cap, cur, rfl, _, h2, _⟩⟩ := hown
    · simp [Value.ownBlock] at hq
    · simp only [Value.ownBlock, Option.some.injEq] at hq
      subst hq
      rw [hcs] at h2
      simp at h2
  refine region_cut (fun a a' w' => ∃ w1 w3 v', (∃ y0 y1 y2 y3 y4 y5 y6, a' = (((((((a.put (some 48) y0).put (some 49) y1).put (some 50) y2).put (some 51) y3).put (some 52) y4).put (some 53) y5).put (some 54) y6)) ∧ D w1 ∧ w.grownBy w1 (some g) ∧ (w1.alloc (.cells (figV c) 52)).grownBy w3 v.ownBlock ∧ w3.ownsRow B 52 2 v' (F ++ [c]).length (gcells figV (F ++ [c])) ∧ w3.heap[p]? = some (.cells cs 76 (0, 0)) ∧ w' = w3.setCell ⟨p, 2, none⟩ v') ?_ ?_
  case refine_2 =>
    rintro a' w' ⟨w1, w3, v', ha, h1, h2, h3, h4, h5, rfl⟩
    exact hK a' w1 w3 v' ha h1 h2 h3 h4 h5
  -- what is left behind the first five operations
  have tail : ∀ (b : Act) (w1 : World), (∃ y0 y1 y2 y3 y4, b = (((((a.put (some 48) y0).put (some 49) y1).put (some 50) y2).put (some 51) y3).put (some 52) y4)) → b.eval (.tmp 49) = v → b.eval (.tmp 52) = .slice (some ⟨w1.heap.size, 0, none⟩) 1 1 → b.eval (.tmp 5) = .pointer (some ⟨p, 0, none⟩) → b.tmps.size = a.tmps.size → w.drew.grownBy w1 (some g) → D w1 →
      wpAnyH Tryd.prog .any own15_ops.toArray (fun e a' w' => e = .normal ∧ ∃ w1 w3 v', (∃ y0 y1 y2 y3 y4 y5 y6, a' = (((((((a.put (some 48) y0).put (some 49) y1).put (some 50) y2).put (some 51) y3).put (some 52) y4).put (some 53) y5).put (some 54) y6)) ∧ D w1 ∧ w.grownBy w1 (some g) ∧ (w1.alloc (.cells (figV c) 52)).grownBy w3 v.ownBlock ∧ w3.ownsRow B 52 2 v' (F ++ [c]).length (gcells figV (F ++ [c])) ∧ w3.heap[p]? = some (.cells cs 76 (0, 0)) ∧ w' = w3.setCell ⟨p, 2, none⟩ v') (fun _ => True) 3 #[true, true, true, true, true, false, false, false] b (w1.alloc (.cells (figV c) 52)) := by
    rintro b w1 ⟨y0, y1, y2, y3, y4, hb⟩ e1 e4 e5 hbs hg1 hD
    have hown1 : (w1.alloc (.cells (figV c) 52)).ownsRow B 52 2 v F.length (gcells figV F) := (own_by (grown_trans (gb_drew w g) hg1) hgB hown).alloc _
    have hz1 := hg1.size
    rw [w_set_heap] at hz1
    refine wpAnyH_all (rs := [5]) (by kernel_rfl) (by decide) ?_
    intro i hi
    obtain rfl := List.mem_singleton.1 hi
    refine wpOp_of_list rfl ?_
    refine wl_appendE (E := FigE) FigOk figV rfl _ _ rfl B v F c (fig_fits _) e1 hown1 w1.heap.size 1 e4 (heap_new _ _ _ rfl) (by omega) (by simp; omega) ?_
    intro v' w3 hown3 hgr3 _
    have hp3 : w3.heap[p]? = some (.cells cs 76 (0, 0)) := (hgr3.block p (by simp; omega) (fun hq => hvp hq.symm)).trans (heap_past _ _ _ _ (keep w1 hg1))
    obtain ⟨o3, cap3, hv3⟩ := gown_slice hown3
    refine ⟨trivial, ?_⟩
    show wpAnyH Tryd.prog .any own15_ops.toArray _ _ 2 _ (b.put (some 53) v') w3
    have s5 : (b.put (some 53) v').eval (.tmp 5) = .pointer (some ⟨p, 0, none⟩) := by rw [eval_put _ _ _ _ (by omega), if_neg (by decide)]; exact e5
    have s6 : (b.put (some 53) v').eval (.tmp 53) = v' := by rw [eval_put _ _ _ _ (by omega), if_pos rfl]
    refine wpAnyH_all (rs := [6]) (by kernel_rfl) (by decide) ?_
    intro i hi
    obtain rfl := List.mem_singleton.1 hi
    refine wpOp_val rfl rfl (.pointer (some ⟨p, 2, none⟩)) (run_fieldOp rfl _ _ _ ((congrArg (fun y => (Instr.fieldAt 76 y 2).run Tryd.prog w3) s5).trans (hfa w3))) (some 54) rfl ?_
    refine ⟨trivial, ?_⟩
    refine wpAnyH_all (rs := [7]) (by kernel_rfl) (by decide) ?_
    intro i hi
    obtain rfl := List.mem_singleton.1 hi
    refine wpOp_skip0 (w' := w3.setCell ⟨p, 2, none⟩ v') rfl rfl ?_ rfl ?_
    · have s7 : ((b.put (some 53) v').put (some 54) (.pointer (some ⟨p, 2, none⟩))).eval (.tmp 54) = .pointer (some ⟨p, 2, none⟩) := by rw [eval_put _ _ _ _ (by rw [size_put]; omega), if_pos rfl]
      have s8 : ((b.put (some 53) v').put (some 54) (.pointer (some ⟨p, 2, none⟩))).eval (.tmp 53) = v' := by rw [eval_put _ _ _ _ (by rw [size_put]; omega), if_neg (by decide)]; exact s6
      have hst := store_cell (ty := 74) (fun W => Tryd.sizeOf74 W) w3 ⟨p, 2, none⟩ v' v ⟨o3, _, cap3, hv3⟩ (hcell w3 hp3) (tc_frozen hp3 rfl)
      exact run_storeOp rfl _ _ _ _ _ s7 s8 hst
    · refine ⟨trivial, wpAnyH_done (by kernel_rfl) ?_ _⟩
      refine ⟨rfl, w1, w3, v', ⟨y0, y1, y2, y3, y4, v', .pointer (some ⟨p, 2, none⟩), ?_⟩, hD, grown_trans (gb_drew w g) hg1, hgr3, hown3, hp3, rfl⟩
      rw [hb]
  have hQ : ∀ (d : Option Tmp) (x : Value) ch (b : Act) (W : World), (fun (e : Exit) (a' : Act) (w' : World) => e = .normal ∧ ∃ w1 w3 v', (∃ y0 y1 y2 y3 y4 y5 y6, a' = (((((((a.put (some 48) y0).put (some 49) y1).put (some 50) y2).put (some 51) y3).put (some 52) y4).put (some 53) y5).put (some 54) y6)) ∧ D w1 ∧ w.grownBy w1 (some g) ∧ (w1.alloc (.cells (figV c) 52)).grownBy w3 v.ownBlock ∧ w3.ownsRow B 52 2 v' (F ++ [c]).length (gcells figV (F ++ [c])) ∧ w3.heap[p]? = some (.cells cs 76 (0, 0)) ∧ w' = w3.setCell ⟨p, 2, none⟩ v') (.panic ch) (Act.put b d x) W → (fun (e : Exit) (a' : Act) (w' : World) => e = .normal ∧ ∃ w1 w3 v', (∃ y0 y1 y2 y3 y4 y5 y6, a' = (((((((a.put (some 48) y0).put (some 49) y1).put (some 50) y2).put (some 51) y3).put (some 52) y4).put (some 53) y5).put (some 54) y6)) ∧ D w1 ∧ w.grownBy w1 (some g) ∧ (w1.alloc (.cells (figV c) 52)).grownBy w3 v.ownBlock ∧ w3.ownsRow B 52 2 v' (F ++ [c]).length (gcells figV (F ++ [c])) ∧ w3.heap[p]? = some (.cells cs 76 (0, 0)) ∧ w' = w3.setCell ⟨p, 2, none⟩ v') (.panic ch) b W := fun _ _ _ _ _ h => absurd h.1 (by simp)
  refine region_beginS (fun _ => True) 8 rfl (by kernel_rfl) ?_
  refine wpAnyH_take (i := 0) (v := .pointer (some ⟨p, 2, none⟩)) rfl (by kernel_rfl) (by kernel_rfl) (by kernel_rfl) (fun c b W => hQ _ _ c b W) (.inl ⟨rfl, fun W _ => run_fieldOp rfl _ _ _ ((congrArg (fun y => (Instr.fieldAt 76 y 2).run Tryd.prog W) hp).trans (hfa W))⟩) trivial ?_
  have a1 : (a.put (some 48) (.pointer (some ⟨p, 2, none⟩))).eval (.tmp 0) = .pointer (some ⟨g, 0, none⟩) := by rw [eval_put _ _ _ _ (by omega), if_neg (by decide)]; exact h0
  refine wpAnyH_take (i := 2) (v := .pointer (some ⟨g, 0, none⟩)) rfl (by kernel_rfl) (by kernel_rfl) (by kernel_rfl) (fun c b W => hQ _ _ c b W) (.inl ⟨rfl, fun W _ => run_moveOp rfl _ _ _ a1⟩) trivial ?_
  have hs2 : ((a.put (some 48) (.pointer (some ⟨p, 2, none⟩))).put (some 50) (.pointer (some ⟨g, 0, none⟩))).tmps.size = a.tmps.size := by rw [size_put, size_put]
  have hcF : ∀ vs W, (callFunc 59 vs).run Tryd.prog W = .ok (.enter 59 vs) W := fun vs W => by have hf := Tryd.func59; simp [go_sem]
  obtain ⟨a2, ha2⟩ : ∃ a2, a2 = ((a.put (some 48) (.pointer (some ⟨p, 2, none⟩))).put (some 50) (.pointer (some ⟨g, 0, none⟩))) := ⟨_, rfl⟩
  have x0 : a2.eval (.tmp 48) = .pointer (some ⟨p, 2, none⟩) := by rw [ha2, eval_put _ _ _ _ (by rw [size_put]; omega), if_neg (by decide), eval_put _ _ _ _ (by omega), if_pos rfl]
  have x2 : a2.eval (.tmp 50) = .pointer (some ⟨g, 0, none⟩) := by rw [ha2, eval_put _ _ _ _ (by rw [size_put]; omega), if_pos rfl]
  have xb : a2.eval (.tmp 5) = .pointer (some ⟨p, 0, none⟩) := by rw [ha2, eval_put _ _ _ _ (by rw [size_put]; omega), if_neg (by decide), eval_put _ _ _ _ (by omega), if_neg (by decide)]; exact hp
  have xs : a2.tmps.size = a.tmps.size := by rw [ha2]; exact hs2
  have comm : ∀ (k j : Nat) (b : Act) (y z : Value), k ≠ j → (b.put (some k) y).put (some j) z = (b.put (some j) z).put (some k) y := fun k j b y z hkj => by
    simp only [Act.put]
    congr 1
    exact Array.setIfInBounds_comm _ _ hkj
  show wpAnyH Tryd.prog .any own15_ops.toArray _ _ 6 _ ((a.put (some 48) (.pointer (some ⟨p, 2, none⟩))).put (some 50) (.pointer (some ⟨g, 0, none⟩))) w.drew
  rw [← ha2]
  have hg0 : w.drew.grownBy w.drew (some g) := gb_refl _ _
  refine wpAnyH_all (rs := [1, 3]) (by kernel_rfl) (by decide) ?_
  intro i hi
  rcases List.mem_cons.1 hi with rfl | hi
  · refine wpOp_val rfl rfl v (run_loadOp rfl _ _ _ _ x0 (load_cell (e := 52) Tryd.underlying74 _ _ _ (hcell _ (keep _ hg0)))) (some 49) rfl ⟨trivial, ?_⟩
    refine wpAnyH_all (rs := [3]) (by kernel_rfl) (by decide) ?_
    intro i hi
    obtain rfl := List.mem_singleton.1 hi
    refine wpOp_callQ rfl rfl 59 #[.pointer (some ⟨g, 0, none⟩)] (run_callOp rfl hcF _ _ _ (by rw [eval_put _ _ _ _ (by omega), if_neg (by decide)]; exact x2)) _ hcall (some 51) rfl ?_ (fun ch w' h => absurd h.1 (by simp)) (fun w' h => absurd h.1 (by simp))
    rintro u w1 ⟨hu, hg1, hD⟩
    obtain rfl : u = .agg (figV c) := by simpa using hu
    refine ⟨trivial, ?_⟩
    refine wpAnyH_all (rs := [4]) (by kernel_rfl) (by decide) ?_
    intro i hi
    obtain rfl := List.mem_singleton.1 hi
    refine wpOp_of_list rfl ?_
    refine wl_buildE (E := FigE) FigOk rfl _ rfl (figV c) rfl (by rw [eval_put _ _ _ _ (by rw [size_put]; omega), if_pos rfl]) ?_
    refine ⟨trivial, ?_⟩
    refine (show wpAnyH Tryd.prog .any own15_ops.toArray _ _ 3 _ (((a2.put (some 49) v).put (some 51) (.agg (figV c))).put (some 52) (.slice (some ⟨w1.heap.size, 0, none⟩) 1 1)) _ from tail (((a2.put (some 49) v).put (some 51) (.agg (figV c))).put (some 52) (.slice (some ⟨w1.heap.size, 0, none⟩) 1 1)) w1 ⟨.pointer (some ⟨p, 2, none⟩), v, .pointer (some ⟨g, 0, none⟩), .agg (figV c), .slice (some ⟨w1.heap.size, 0, none⟩) 1 1, ?_⟩ ?_ ?_ ?_ ?_ hg1 hD)
    · rw [ha2, comm 50 49 _ _ _ (by decide)]
    · rw [eval_put _ _ _ _ (by rw [size_put, size_put]; omega), if_neg (by decide), eval_put _ _ _ _ (by rw [size_put]; omega), if_neg (by decide), eval_put _ _ _ _ (by omega), if_pos rfl]
    · rw [eval_put _ _ _ _ (by rw [size_put, size_put]; omega), if_pos rfl]
    · rw [eval_put _ _ _ _ (by rw [size_put, size_put]; omega), if_neg (by decide), eval_put _ _ _ _ (by rw [size_put]; omega), if_neg (by decide), eval_put _ _ _ _ (by omega), if_neg (by decide)]; exact xb
    · rw [size_put, size_put, size_put]; exact xs
  · obtain rfl := List.mem_singleton.1 hi
    refine wpOp_callQ rfl rfl 59 #[.pointer (some ⟨g, 0, none⟩)] (run_callOp rfl hcF _ _ _ x2) _ hcall (some 51) rfl ?_ (fun ch w' h => absurd h.1 (by simp)) (fun w' h => absurd h.1 (by simp))
    rintro u w1 ⟨hu, hg1, hD⟩
    obtain rfl : u = .agg (figV c) := by simpa using hu
    refine ⟨trivial, ?_⟩
    refine wpAnyH_all (rs := [1, 4]) (by kernel_rfl) (by decide) ?_
    intro i hi
    rcases List.mem_cons.1 hi with rfl | hi
    · refine wpOp_val rfl rfl v (run_loadOp rfl _ _ _ _ (by rw [eval_put _ _ _ _ (by omega), if_neg (by decide)]; exact x0) (load_cell (e := 52) Tryd.underlying74 _ _ _ (hcell _ (keep _ hg1)))) (some 49) rfl ⟨trivial, ?_⟩
      refine wpAnyH_all (rs := [4]) (by kernel_rfl) (by decide) ?_
      intro i hi
      obtain rfl := List.mem_singleton.1 hi
      refine wpOp_of_list rfl ?_
      refine wl_buildE (E := FigE) FigOk rfl _ rfl (figV c) rfl (by rw [eval_put _ _ _ _ (by rw [size_put]; omega), if_neg (by decide), eval_put _ _ _ _ (by omega), if_pos rfl]) ?_
      refine ⟨trivial, ?_⟩
      refine (show wpAnyH Tryd.prog .any own15_ops.toArray _ _ 3 _ (((a2.put (some 51) (.agg (figV c))).put (some 49) v).put (some 52) (.slice (some ⟨w1.heap.size, 0, none⟩) 1 1)) _ from tail (((a2.put (some 51) (.agg (figV c))).put (some 49) v).put (some 52) (.slice (some ⟨w1.heap.size, 0, none⟩) 1 1)) w1 ⟨.pointer (some ⟨p, 2, none⟩), v, .pointer (some ⟨g, 0, none⟩), .agg (figV c), .slice (some ⟨w1.heap.size, 0, none⟩) 1 1, ?_⟩ ?_ ?_ ?_ ?_ hg1 hD)
      · rw [comm 51 49 _ _ _ (by decide), ha2, comm 50 49 _ _ _ (by decide)]
      · rw [eval_put _ _ _ _ (by rw [size_put, size_put]; omega), if_neg (by decide), eval_put _ _ _ _ (by rw [size_put]; omega), if_pos rfl]
      · rw [eval_put _ _ _ _ (by rw [size_put, size_put]; omega), if_pos rfl]
      · rw [eval_put _ _ _ _ (by rw [size_put, size_put]; omega), if_neg (by decide), eval_put _ _ _ _ (by rw [size_put]; omega), if_neg (by decide), eval_put _ _ _ _ (by omega), if_neg (by decide)]; exact xb
      · rw [size_put, size_put, size_put]; exact xs
    · obtain rfl := List.mem_singleton.1 hi
      refine wpOp_of_list rfl ?_
      refine wl_buildE (E := FigE) FigOk rfl _ rfl (figV c) rfl (by rw [eval_put _ _ _ _ (by omega), if_pos rfl]) ?_
      refine ⟨trivial, ?_⟩
      show wpAnyH Tryd.prog .any own15_ops.toArray _ _ 4 _ ((a2.put (some 51) (.agg (figV c))).put (some 52) (.slice (some ⟨w1.heap.size, 0, none⟩) 1 1)) _
      refine wpAnyH_all (rs := [1]) (by kernel_rfl) (by decide) ?_
      intro i hi
      obtain rfl := List.mem_singleton.1 hi
      refine wpOp_val rfl rfl v (run_loadOp rfl _ _ _ _ (by rw [eval_put _ _ _ _ (by rw [size_put]; omega), if_neg (by decide), eval_put _ _ _ _ (by omega), if_neg (by decide)]; exact x0) (load_cell (e := 52) Tryd.underlying74 _ _ _ (hcell _ (heap_past _ _ _ _ (keep _ hg1))))) (some 49) rfl ⟨trivial, ?_⟩
      refine (show wpAnyH Tryd.prog .any own15_ops.toArray _ _ 3 _ (((a2.put (some 51) (.agg (figV c))).put (some 52) (.slice (some ⟨w1.heap.size, 0, none⟩) 1 1)).put (some 49) v) _ from tail (((a2.put (some 51) (.agg (figV c))).put (some 52) (.slice (some ⟨w1.heap.size, 0, none⟩) 1 1)).put (some 49) v) w1 ⟨.pointer (some ⟨p, 2, none⟩), v, .pointer (some ⟨g, 0, none⟩), .agg (figV c), .slice (some ⟨w1.heap.size, 0, none⟩) 1 1, ?_⟩ ?_ ?_ ?_ ?_ hg1 hD)
      · rw [comm 52 49 _ _ _ (by decide), comm 51 49 _ _ _ (by decide), ha2, comm 50 49 _ _ _ (by decide)]
      · rw [eval_put _ _ _ _ (by rw [size_put, size_put]; omega), if_pos rfl]
      · rw [eval_put _ _ _ _ (by rw [size_put, size_put]; omega), if_neg (by decide), eval_put _ _ _ _ (by rw [size_put]; omega), if_pos rfl]
      · rw [eval_put _ _ _ _ (by rw [size_put, size_put]; omega), if_neg (by decide), eval_put _ _ _ _ (by rw [size_put]; omega), if_neg (by decide), eval_put _ _ _ _ (by omega), if_neg (by decide)]; exact xb
      · rw [size_put, size_put, size_put]; exact xs

set_option maxHeartbeats 2000000 in
theorem own15_panics {id : Nat} {Q : Exit → Act → World → Prop} {a : Act} {w : World} (hs : 55 ≤ a.tmps.size) (g p : Nat) (h0 : a.eval (.tmp 0) = .pointer (some ⟨g, 0, none⟩)) (hp : a.eval (.tmp 5) = .pointer (some ⟨p, 0, none⟩))
    (cs : Array Value) (hcs : w.heap[p]? = some (.cells cs 76 (0, 0))) (v : Value) (hv : cs[2]? = some v)
    (ch : List PanicEntry) (D : World → Prop) (hcall : Calls Tryd.prog 59 #[.pointer (some ⟨g, 0, none⟩)] w.drew fun e w' => e = .panicked ch ∧ D w')
    (hK : ∀ a' w', a'.defers = a.defers → D w' → Q (.panic ch) a' w') : (Code.region id own15_ops.toArray true).wp Tryd.prog Q a w := by
  have hfa : ∀ W, (Instr.fieldAt 76 (.pointer (some ⟨p, 0, none⟩)) 2).run Tryd.prog W = .ok (.pointer (some ⟨p, 2, none⟩)) W := fun W => by simp [go_sem]
  have hcell : w.drew.cell? ⟨p, 2, none⟩ = some v := by rw [cell_of_row _ _ _ _ _ _ (show w.drew.heap[p]? = _ from hcs)]; exact hv
  refine Code.wp_mono (Q := fun e a' w' => e = .panic ch ∧ a'.defers = a.defers ∧ D w') (by rintro e a' w' ⟨rfl, hd, h⟩; exact hK a' w' hd h) ?_
  refine region_beginS (fun _ => True) 8 rfl (by kernel_rfl) ?_
  refine wpAnyH_take (i := 0) (v := .pointer (some ⟨p, 2, none⟩)) rfl (by kernel_rfl) (by kernel_rfl) (by kernel_rfl) (fun _ _ _ h => ⟨h.1, h.2.1, h.2.2⟩) (.inl ⟨rfl, fun W _ => run_fieldOp rfl _ _ _ ((congrArg (fun y => (Instr.fieldAt 76 y 2).run Tryd.prog W) hp).trans (hfa W))⟩) trivial ?_
  have a1 : (a.put (some 48) (.pointer (some ⟨p, 2, none⟩))).eval (.tmp 0) = .pointer (some ⟨g, 0, none⟩) := by rw [eval_put _ _ _ _ (by omega), if_neg (by decide)]; exact h0
  refine wpAnyH_take (i := 2) (v := .pointer (some ⟨g, 0, none⟩)) rfl (by kernel_rfl) (by kernel_rfl) (by kernel_rfl) (fun _ _ _ h => ⟨h.1, h.2.1, h.2.2⟩) (.inl ⟨rfl, fun W _ => run_moveOp rfl _ _ _ a1⟩) trivial ?_
  have hs2 : ((a.put (some 48) (.pointer (some ⟨p, 2, none⟩))).put (some 50) (.pointer (some ⟨g, 0, none⟩))).tmps.size = a.tmps.size := by rw [size_put, size_put]
  have hcF : ∀ vs W, (callFunc 59 vs).run Tryd.prog W = .ok (.enter 59 vs) W := fun vs W => by have hf := Tryd.func59; simp [go_sem]
  obtain ⟨a2, ha2⟩ : ∃ a2, a2 = ((a.put (some 48) (.pointer (some ⟨p, 2, none⟩))).put (some 50) (.pointer (some ⟨g, 0, none⟩))) := ⟨_, rfl⟩
  have x0 : a2.eval (.tmp 48) = .pointer (some ⟨p, 2, none⟩) := by rw [ha2, eval_put _ _ _ _ (by rw [size_put]; omega), if_neg (by decide), eval_put _ _ _ _ (by omega), if_pos rfl]
  have x2 : a2.eval (.tmp 50) = .pointer (some ⟨g, 0, none⟩) := by rw [ha2, eval_put _ _ _ _ (by rw [size_put]; omega), if_pos rfl]
  have xs : a2.tmps.size = a.tmps.size := by rw [ha2]; exact hs2
  show wpAnyH Tryd.prog .any own15_ops.toArray _ _ 6 _ ((a.put (some 48) (.pointer (some ⟨p, 2, none⟩))).put (some 50) (.pointer (some ⟨g, 0, none⟩))) w.drew
  rw [← ha2]
  refine wpAnyH_all (rs := [1, 3]) (by kernel_rfl) (by decide) ?_
  intro i hi
  rcases List.mem_cons.1 hi with rfl | hi
  · refine wpOp_val rfl rfl v (run_loadOp rfl _ _ _ _ x0 (load_cell (e := 52) Tryd.underlying74 _ _ _ hcell)) (some 49) rfl ⟨trivial, ?_⟩
    refine wpAnyH_all (rs := [3]) (by kernel_rfl) (by decide) ?_
    intro i hi
    obtain rfl := List.mem_singleton.1 hi
    refine wpOp_callQ rfl rfl 59 #[.pointer (some ⟨g, 0, none⟩)] (run_callOp rfl hcF _ _ _ (by rw [eval_put _ _ _ _ (by omega), if_neg (by decide)]; exact x2)) _ hcall (some 51) rfl (fun v w' h => absurd h.1 (by simp)) (fun ch' w' h => ⟨by rw [Ending.panicked.inj h.1], by rw [ha2]; rfl, h.2⟩) (fun w' h => absurd h.1 (by simp))
  · obtain rfl := List.mem_singleton.1 hi
    refine wpOp_callQ rfl rfl 59 #[.pointer (some ⟨g, 0, none⟩)] (run_callOp rfl hcF _ _ _ x2) _ hcall (some 51) rfl (fun v w' h => absurd h.1 (by simp)) (fun ch' w' h => ⟨by rw [Ending.panicked.inj h.1], by rw [ha2]; rfl, h.2⟩) (fun w' h => absurd h.1 (by simp))
end Go.Proofs.YtbdbjbmjnemknaaDoor
