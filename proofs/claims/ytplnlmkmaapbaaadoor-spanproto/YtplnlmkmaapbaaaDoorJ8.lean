import Derived.Test.YtplnlmkmaapbaaaDoorJ6
import Derived.OrdersHeld
import Derived.Test.YtplnlmkmaapbaaaDoorJ4
namespace Go.Proofs.YtplnlmkmaapbaaaDoor
open Go Go.RowKit

/-- An operation that only reckons or reads. -/
def isRead (o : Oper) : Bool :=
  match o.op with
  | .move _ | .load _ _ | .binOp _ _ _ _ _ | .indexAddr _ _ _ | .extract _ _ | .assign _ | .fieldAddr _ _ _ => true
  | _ => false

theorem read_value {P : Program} {ρ : Operand → Value} {o : Oper} (h : isRead o = true) (w : World) (nx : Next) (w' : World) (hr : (execOp ρ o).run P w = .ok nx w') : ∃ u, nx = .value u := by
  unfold isRead at h
  unfold execOp at hr
  split at h
  · rename_i x e
    simp only [e, Sem.run_pure, Result.ok.injEq] at hr
    exact ⟨_, hr.1.symm⟩
  · rename_i t x e
    simp only [e, Sem.run_bind, Sem.run_pure] at hr
    revert hr
    generalize (Instr.loadAt t (ρ x)).run P w = r
    intro hr
    cases r with
    | ok a w1 => simp only [Result.andThen_ok, Result.ok.injEq] at hr; exact ⟨_, hr.1.symm⟩
    | halt x w1 => simp [Result.andThen] at hr
  · rename_i op t x y z e
    simp only [e, Sem.run_bind, Sem.run_pure] at hr
    revert hr
    generalize ((eqGuard op t x y (ρ x) (ρ y)).run P w).andThen (fun _ w' => (binOp op t (ρ x) (ρ y)).run P w') = r
    intro hr
    cases r with
    | ok a w1 => simp only [Result.andThen_ok, Result.ok.injEq] at hr; exact ⟨_, hr.1.symm⟩
    | halt x w1 => simp [Result.andThen] at hr
  · rename_i t x y e
    simp only [e, Sem.run_bind, Sem.run_pure] at hr
    revert hr
    generalize (Instr.indexAt t (ρ x) (ρ y)).run P w = r
    intro hr
    cases r with
    | ok a w1 => simp only [Result.andThen_ok, Result.ok.injEq] at hr; exact ⟨_, hr.1.symm⟩
    | halt x w1 => simp [Result.andThen] at hr
  · rename_i x i e
    simp only [e, Sem.run_bind, Sem.run_pure] at hr
    revert hr
    generalize (Instr.extract (ρ x) i).run P w = r
    intro hr
    cases r with
    | ok a w1 => simp only [Result.andThen_ok, Result.ok.injEq] at hr; exact ⟨_, hr.1.symm⟩
    | halt x w1 => simp [Result.andThen] at hr
  · rename_i x e
    simp only [e, Sem.run_pure, Result.ok.injEq] at hr
    exact ⟨_, hr.1.symm⟩
  · rename_i t x i e
    simp only [e, Sem.run_bind, Sem.run_pure] at hr
    revert hr
    generalize (Instr.fieldAt t (ρ x) i).run P w = r
    intro hr
    cases r with
    | ok a w1 => simp only [Result.andThen_ok, Result.ok.injEq] at hr; exact ⟨_, hr.1.symm⟩
    | halt x w1 => simp [Result.andThen] at hr
  · cases h

theorem yieldsIf_of_in {P : Program} {ops : Array Oper} {S : World → Prop} {o : Oper} {v : Value} {a : Act} (h : isRead o = true) (hy : YieldsIn P ops S o v a) : YieldsIf P ops S o v a := by
  rcases hy with ⟨hw, hv⟩ | hn
  · refine .inl ⟨hw, fun w hS => ?_⟩
    have hq := hv w hS
    unfold Oper.quietAt at hq
    cases hr : (execOp a.eval o).run P w with
    | ok nx w' =>
      obtain ⟨u, rfl⟩ := read_value h w nx w' hr
      rw [hr] at hq
      obtain ⟨rfl, rfl⟩ := hq
      rfl
    | halt x w' => rw [hr] at hq; exact hq.elim
  · exact .inr hn

def headFrom (md : Region.Mode) (ops : Array Oper) : Nat → Nat → Array Bool → Bool
  | 0, _, _ => true
  | f + 1, k, listed => (Region.ready md ops listed).contains k && Region.free md ops listed k && headFrom md ops f (k + 1) (listed.setIfInBounds k true)
def listedFrom : Nat → Nat → Array Bool → Array Bool
  | 0, _, l => l
  | f + 1, k, l => listedFrom f (k + 1) (l.setIfInBounds k true)

theorem reads_held {P : Program} {md : Region.Mode} {ops : Array Oper} {Q : Exit → Act → World → Prop} {S : World → Prop} {g : Nat} (hs : Region.noSelect ops = true) (hQ : ∀ d v c a w, Q (.panic c) (Act.put a d v) w → Q (.panic c) a w) (w : World) (hS : S w) :
    ∀ (l : List Oper) (k : Nat) (listed : Array Bool) (a : Act), (∀ j, j < l.length → l[j]? = ops[k + j]?) → headFrom md ops l.length k listed = true → l.all isRead = true →
      wpQuiet P ops S (fun a' => wpAnyH P md ops Q S g (listedFrom l.length k listed) a' w) l a → wpAnyH P md ops Q S (l.length + g) listed a w
  | [], _, _, _, _, _, _, h => by simpa [wpQuiet, listedFrom] using h
  | o :: l, k, listed, a, hl, hB, hr, h => by
    have h0 : ops[k]? = some o := by simpa using (hl 0 (by simp)).symm
    simp only [List.length_cons, headFrom, Bool.and_eq_true] at hB
    simp only [List.all_cons, Bool.and_eq_true] at hr
    have hst : qOp P ops S k (wpQuiet P ops S (fun a' => wpAnyH P md ops Q S g (listedFrom (o :: l).length k listed) a' w) l) a := by
      unfold qOp; simp only [h0]; exact h
    obtain ⟨v, hy, hK⟩ := yieldsIn_of_qOp h0 hst
    have ih := reads_held hs hQ w hS l (k + 1) (listed.setIfInBounds k true) (a.put o.dst v) (fun j hj => by
      have := hl (j + 1) (by simp; omega)
      simpa [Nat.add_assoc, Nat.add_comm 1 j] using this) hB.2 hr.2 hK
    rw [show (o :: l).length + g = (l.length + g) + 1 by simp; omega]
    exact wpAnyH_take h0 hs hB.1.2 hB.1.1 (fun c a w => hQ o.dst v c a w) (yieldsIf_of_in hr.1 hy) hS ih

/-- A drawn region, from its beginning. -/
theorem region_begin {P : Program} {id : Nat} {Q : Exit → Act → World → Prop} {a : Act} {w : World} {lo : List Oper} (n : Nat) (hn : lo.length = n) (hm : P.follows .mixedOrders = true)
    (h : wpAnyH P .any lo.toArray Q (fun w' => ∃ u : Later w, w' = u.world) n (Array.replicate n false) a w.drew) : (Code.region id lo.toArray true).wp P Q a w := by
  refine wp_region_held (S := fun w' => ∃ u : Later w, w' = u.world) hm ?_
  rw [show lo.toArray.size = n by simpa using hn]
  exact h
/-- The same with a class of worlds of one's own. -/
theorem region_beginS {P : Program} {id : Nat} {Q : Exit → Act → World → Prop} {a : Act} {w : World} {lo : List Oper} (S : World → Prop) (n : Nat) (hn : lo.length = n) (hm : P.follows .mixedOrders = true)
    (h : wpAnyH P .any lo.toArray Q S n (Array.replicate n false) a w.drew) : (Code.region id lo.toArray true).wp P Q a w := by
  refine wp_region_held (S := S) hm ?_
  rw [show lo.toArray.size = n by simpa using hn]
  exact h
/-- n operations, from number k on, that only read, are taken first. -/
theorem region_reads {P : Program} {Q : Exit → Act → World → Prop} {S : World → Prop} {a : Act} {w : World} {lo : List Oper} {listed : Array Bool} (k n g : Nat) (hl : ((lo.drop k).take n).length = n) (hs : Region.noSelect lo.toArray = true)
    (hB : headFrom .any lo.toArray n k listed = true) (hr : ((lo.drop k).take n).all isRead = true) (hQ : ∀ d v c a w, Q (.panic c) (Act.put a d v) w → Q (.panic c) a w) (hS : S w)
    (h : wpQuiet P lo.toArray S (fun a' => wpAnyH P .any lo.toArray Q S g (listedFrom n k listed) a' w) ((lo.drop k).take n) a) : wpAnyH P .any lo.toArray Q S (n + g) listed a w := by
  have := reads_held (P := P) (md := .any) (Q := Q) (g := g) hs hQ w hS ((lo.drop k).take n) k listed a (fun j hj => by
    rw [hl] at hj
    rw [List.getElem?_take_of_lt hj, List.getElem?_drop]
    simp) (by rw [hl]; exact hB) hr (by rw [hl]; exact h)
  rwa [hl] at this
theorem noPanic {F : Act → World → Prop} : ∀ (d : Option Tmp) (v : Value) c (a : Act) (w : World), (fun (e : Exit) a w => e = .normal ∧ F a w) (.panic c) (Act.put a d v) w → (fun (e : Exit) a w => e = .normal ∧ F a w) (.panic c) a w :=
  fun _ _ _ _ _ h => absurd h.1 (by simp)
/-- A cut behind a region. -/
theorem region_cut {P : Program} {c : Code} {Q : Exit → Act → World → Prop} {a : Act} {w : World} (F : Act → Act → World → Prop) (h1 : c.wp P (fun e a' w' => e = .normal ∧ F a a' w') a w) (h2 : ∀ a' w', F a a' w' → Q .normal a' w') : c.wp P Q a w :=
  Code.wp_mono (by rintro e a' w' ⟨rfl, h⟩; exact h2 a' w' h) h1

theorem wpOp_wanted {P : Program} {ops : Array Oper} {Q : Exit → Act → World → Prop} {i : Nat} {o : Oper} {K : Act → World → Prop} {a : Act} {w : World} (hi : ops[i]? = some o) (hw : Region.wanted o (yielded ops a.tmps) = true) (h : o.wp P a w K Q) : wpOp P ops Q i K a w := by
  unfold Go.wpOp
  simp only [hi, hw, if_true]
  exact .inl h
theorem wpOp_call {ops : Array Oper} {Q : Exit → Act → World → Prop} {i : Nat} {o : Oper} {K : Act → World → Prop} {a : Act} {w : World} (hi : ops[i]? = some o) (hw : Region.wanted o (yielded ops a.tmps) = true) (f : FuncId) (xs : Array Operand)
    (hf : ∀ (b : Act) (w : World), (execOp b.eval o).run Tryd.prog w = .ok (.enter f (xs.map b.eval)) w) (vs : Array Value) (hvs : xs.toList.map a.eval = vs.toList)
    (D : Value → World → Prop) (h : Calls Tryd.prog f vs w fun e w' => ∃ v, e = .returned v ∧ D v w') (d : Option Tmp) (hd : o.dst = d) (hK : ∀ v w', D v w' → K (a.put d v) w') : wpOp Tryd.prog ops Q i K a w := by
  subst hd
  refine wpOp_wanted hi hw ?_
  unfold Oper.wp
  rw [hf a w, show xs.map a.eval = vs from Array.ext' (by rw [Array.toList_map]; exact hvs)]
  refine h.mono ?_
  rintro e w' ⟨v, rfl, hc⟩
  exact hK v w' hc
theorem wpOp_allocC {ops : Array Oper} {Q : Exit → Act → World → Prop} {i : Nat} {o : Oper} {K : Act → World → Prop} {a : Act} {w : World} (hi : ops[i]? = some o) (hw : Region.wanted o (yielded ops a.tmps) = true) (ho : o.op = .alloc 37) (d : Option Tmp) (hd : o.dst = d)
    (hK : K (a.put d (.pointer (some ⟨w.heap.size, 0, none⟩))) (w.alloc (.cells zeroC 37))) : wpOp Tryd.prog ops Q i K a w := by
  subst hd
  refine wpOp_wanted hi hw ?_
  obtain ⟨dst, op, ty, pos, after, guard⟩ := o
  subst ho
  unfold Oper.wp
  have : ∀ (b : Act), (execOp b.eval ⟨dst, .alloc 37, ty, pos, after, guard⟩).run Tryd.prog w = .ok (.value (.pointer (some ⟨w.heap.size, 0, none⟩))) (w.alloc (.cells zeroC 37)) := fun b => by simp [go_sem]
  rw [this a]
  exact hK
theorem wpOp_alloc26 {ops : Array Oper} {Q : Exit → Act → World → Prop} {i : Nat} {o : Oper} {K : Act → World → Prop} {a : Act} {w : World} (hi : ops[i]? = some o) (hw : Region.wanted o (yielded ops a.tmps) = true) (ho : o.op = .alloc 23) (d : Option Tmp) (hd : o.dst = d)
    (hK : K (a.put d (.pointer (some ⟨w.heap.size, 0, none⟩))) (w.alloc (.cells zero26 23))) : wpOp Tryd.prog ops Q i K a w := by
  subst hd
  refine wpOp_wanted hi hw ?_
  obtain ⟨dst, op, ty, pos, after, guard⟩ := o
  subst ho
  unfold Oper.wp
  have : ∀ (b : Act), (execOp b.eval ⟨dst, .alloc 23, ty, pos, after, guard⟩).run Tryd.prog w = .ok (.value (.pointer (some ⟨w.heap.size, 0, none⟩))) (w.alloc (.cells zero26 23)) := fun b => by simp [go_sem]
  rw [this a]
  exact hK
theorem wpOp_store26 {ops : Array Oper} {Q : Exit → Act → World → Prop} {i : Nat} {o : Oper} {K : Act → World → Prop} {a : Act} {w : World} (hi : ops[i]? = some o) (hw : Region.wanted o (yielded ops a.tmps) = true) (x y : Operand) (ho : o.op = .store 23 x y)
    (g : Nat) (L : List Int) (hx : a.eval x = .pointer (some ⟨g, 0, none⟩)) (hy : a.eval y = .agg (hv L)) (old : Array Value) (hg : w.heap[g]? = some (.cells old 23 (0, 0))) (hold : old.size = 13) (hL : L.length = 13) (d : Option Tmp) (hd : o.dst = d)
    (hK : K (a.put d undef) (w.setRow g (hv L))) : wpOp Tryd.prog ops Q i K a w := by
  subst hd
  exact wpOp_wanted hi hw (wp_store_row 23 x y ho g (hv L) hx hy 23 old hg (size26 L hL) (by rw [hv_size, hold, hL]) (hv_one L) hK)
theorem wpOp_storeC {ops : Array Oper} {Q : Exit → Act → World → Prop} {i : Nat} {o : Oper} {K : Act → World → Prop} {a : Act} {w : World} (hi : ops[i]? = some o) (hw : Region.wanted o (yielded ops a.tmps) = true) (x y : Operand) (ho : o.op = .store 37 x y)
    (g : Nat) (V M : List Int) (hx : a.eval x = .pointer (some ⟨g, 0, none⟩)) (hy : a.eval y = .agg (cv V M)) (old : Array Value) (hg : w.heap[g]? = some (.cells old 37 (0, 0))) (hold : old.size = 26) (hV : V.length = 13) (hM : M.length = 13) (d : Option Tmp) (hd : o.dst = d)
    (hK : K (a.put d undef) (w.setRow g (cv V M))) : wpOp Tryd.prog ops Q i K a w := by
  subst hd
  exact wpOp_wanted hi hw (wp_store_row 37 x y ho g (cv V M) hx hy 37 old hg (sizeC V M hV hM) (by rw [cv_size V M hV hM, hold]) (cv_one V M) hK)
theorem wpOp_assign {P : Program} {ops : Array Oper} {Q : Exit → Act → World → Prop} {i : Nat} {o : Oper} {K : Act → World → Prop} {a : Act} {w : World} (hi : ops[i]? = some o) (hw : Region.wanted o (yielded ops a.tmps) = true) (x : Operand) (ho : o.op = .assign x) (v : Value) (hx : a.eval x = v) (d : Option Tmp) (hd : o.dst = d)
    (hK : K (a.put d v) w) : wpOp P ops Q i K a w := by
  subst hd hx
  refine wpOp_wanted hi hw ?_
  unfold Oper.wp execOp
  simp only [ho, Sem.run_pure]
  exact hK
end Go.Proofs.YtplnlmkmaapbaaaDoor
namespace Go.Proofs.YtplnlmkmaapbaaaDoor
open Go Go.RowKit

section
variable {P : Program} {ops : Array Oper} {md : Region.Mode} {C : World → Prop}

/-- Each operation behind the first n + 1 waits for one of those from n on. -/
def chainW (md : Region.Mode) (ops : Array Oper) (n : Nat) : Bool :=
  (List.range ops.size).all fun t => decide (t ≤ n) || (List.range t).any fun s => decide (n ≤ s) && Region.waitsFor md ops t s

theorem waits_tail {n : Nat} {listed : Array Bool} (hs : Region.sinkB md ops n = true) (hc : chainW md ops n = true) (inv : HeadInv md ops n listed) :
    ∀ (d i : Nat), n - i = d → i < n → listed.getD i true = false → ∀ t, n ≤ t → t ∉ Region.ready md ops listed := by
  intro d
  induction d using Nat.strongRecOn with
  | _ d ih =>
    intro i hd hi hun t ht hr
    obtain ⟨_, ot, hot, hall⟩ := mem_ready.1 hr
    have htlt : t < ops.size := (Array.getElem?_eq_some_iff.1 hot).1
    by_cases htn : t = n
    · subst htn
      have h1 := List.all_eq_true.1 hs i (List.mem_range.2 hi)
      obtain ⟨j, hj, hj2⟩ := List.any_eq_true.1 h1
      simp only [Bool.and_eq_true, decide_eq_true_eq] at hj2
      obtain ⟨oj, hoj, e, he, hb, hon⟩ := Region.waitsFor_spec hj2.2
      have hjle : j ≤ t := by have := List.mem_range.1 hj; omega
      by_cases hjt : j = t
      · subst hjt
        have : oj = ot := Option.some.inj (hoj.symm.trans hot)
        subst this
        have h2 := hall e he hb
        rw [hon, getD_both hun] at h2
        cases h2
      · cases hl : listed.getD j false with
        | true =>
          have h2 := inv.closed j oj hoj hl e he hb
          rw [hon, getD_both hun] at h2
          cases h2
        | false =>
          have hjs : j < listed.size := by rw [inv.size]; omega
          exact ih (t - j) (by omega) j rfl (by omega) (getD_in hjs hl) t (Nat.le_refl _) hr
    · have h1 := List.all_eq_true.1 hc t (List.mem_range.2 htlt)
      simp only [Bool.or_eq_true, decide_eq_true_eq] at h1
      rcases h1 with h1 | h1
      · omega
      · obtain ⟨s, hs1, hs2⟩ := List.any_eq_true.1 h1
        simp only [Bool.and_eq_true, decide_eq_true_eq] at hs2
        have hst := List.mem_range.1 hs1
        obtain ⟨o', ho', e, he, hb, hon⟩ := Region.waitsFor_spec hs2.2
        have : o' = ot := Option.some.inj (ho'.symm.trans hot)
        subst this
        have h2 := hall e he hb
        rw [hon, getD_both (inv.tail s hs2.1 (by omega))] at h2
        cases h2

theorem anyH_first {n i : Nat} {oi : Oper} {v : Value} {L : Array Bool → Act → Prop} (hi : ops[i]? = some oi) (hsel : ∀ (j : Nat) (o : Oper) cs b, ops[j]? = some o → o.op ≠ .select cs b)
    (hs : Region.sinkB md ops n = true) (hc : chainW md ops n = true) (hin : i < n)
    (hdone : ∀ listed a, L listed a → ∀ j ∈ Region.ready md ops listed, n ≤ j) :
    ∀ (f : Nat) (listed : Array Bool) (a : Act), HeadInv md ops n listed →
      (∀ j oj, ops[j]? = some oj → j ≠ i → listed.getD j true = false → (∀ e ∈ oj.after, Region.binds md e = true → e.on ≠ i) → oi.apart ops oj = true) →
      i ∈ Region.ready md ops listed → YieldsIn P ops C oi v a →
      anyL P md ops C n L f (listed.setIfInBounds i true) (a.put oi.dst v) → anyL P md ops C n L (f + 1) listed a := by
  intro f
  induction f with
  | zero =>
    intro listed a inv _ hr hy H
    have hun := (mem_ready.1 hr).1
    refine ⟨fun h => (by rw [h] at hr; cases hr), fun j hj => ?_⟩
    have hjn : j < n := by
      rcases Nat.lt_or_ge j n with h | h
      · exact h
      · exact absurd hj (waits_tail hs hc inv _ i rfl hin hun j h)
    refine ⟨hjn, ?_⟩
    by_cases hji : j = i
    · subst hji; exact hy.qOp hi H
    · have := hdone _ _ H j (ready_mono hj hji)
      omega
  | succ f ih =>
    intro listed a inv hfree hr hy H
    have hun := (mem_ready.1 hr).1
    refine ⟨fun h => (by rw [h] at hr; cases hr), fun j hj => ?_⟩
    have hjn : j < n := by
      rcases Nat.lt_or_ge j n with h | h
      · exact h
      · exact absurd hj (waits_tail hs hc inv _ i rfl hin hun j h)
    refine ⟨hjn, ?_⟩
    by_cases hji : j = i
    · subst hji; exact hy.qOp hi H
    · have h1 := (H.2 j (ready_mono hj hji)).2
      obtain ⟨hjun, oj, hoj, hall⟩ := mem_ready.1 hj
      have hnot : ∀ e ∈ oj.after, Region.binds md e = true → e.on ≠ i := fun e he hb heq => by
        have h1 := hall e he hb
        rw [heq, getD_both hun] at h1
        cases h1
      have h2 := qOp_put hoj (hfree j oj hoj hji hjun hnot) (fun cs b => hsel i oi cs b hi) (fun cs b => hsel j oj cs b hoj) hy h1
      have hfree' : ∀ k ok, ops[k]? = some ok → k ≠ i → (listed.setIfInBounds j true).getD k true = false →
          (∀ e ∈ ok.after, Region.binds md e = true → e.on ≠ i) → oi.apart ops ok = true := fun k ok hk hki hun hno => by
        refine hfree k ok hk hki ?_ hno
        by_cases hjk : j = k
        · subst hjk; exact hjun
        · rw [getD_set_ne true hjk] at hun; exact hun
      refine qOp_mono (fun a' h3 => ih (listed.setIfInBounds j true) a' (inv.set hj hjn) hfree' (ready_mono hr (Ne.symm hji)) h3.1 ?_) h2
      rw [Array.setIfInBounds_comm _ _ hji]
      exact h3.2

def headB (md : Region.Mode) (ops : Array Oper) (L0 : Array Bool) : Nat → Nat → Array Bool → Bool
  | 0, _, listed => decide (listed = L0)
  | f + 1, k, listed => (Region.ready md ops listed).contains k && Region.free md ops listed k && headB md ops L0 f (k + 1) (listed.setIfInBounds k true)

theorem anyH_lex {n : Nat} {L0 : Array Bool} {Lq : Act → Prop} (hsel : Region.noSelect ops = true) (hs : Region.sinkB md ops n = true) (hc : chainW md ops n = true) (hd : ∀ j ∈ Region.ready md ops L0, n ≤ j) :
    ∀ (l : List Oper) (k : Nat) (listed : Array Bool) (a : Act), (∀ j, j < l.length → l[j]? = ops[k + j]?) → k + l.length = n → HeadInv md ops n listed →
    headB md ops L0 l.length k listed = true → wpQuiet P ops C Lq l a →
    anyL P md ops C n (fun listed' a' => listed' = L0 ∧ Lq a') l.length listed a
  | [], k, listed, a, _, hk, _, hB, h => ⟨by simpa [headB] using hB, h⟩
  | o :: l, k, listed, a, hl, hk, inv, hB, h => by
    have h0 : ops[k]? = some o := by simpa using (hl 0 (by simp)).symm
    simp only [List.length_cons, headB, Bool.and_eq_true] at hB
    obtain ⟨⟨hr, hf⟩, hB'⟩ := hB
    have hkn : k < n := by simp only [List.length_cons] at hk; omega
    have hr' : k ∈ Region.ready md ops listed := by simpa using hr
    have hst : qOp P ops C k (wpQuiet P ops C Lq l) a := by unfold qOp; simp only [h0]; exact h
    obtain ⟨v, hy, hK⟩ := yieldsIn_of_qOp h0 hst
    exact anyH_first h0 (Region.noSelect_spec hsel) hs hc hkn (fun listed' a' hL => by rw [hL.1]; exact hd) l.length listed a inv (Region.free_spec h0 hf) hr' hy
      (anyH_lex hsel hs hc hd l (k + 1) _ _ (fun j hj => by have := hl (j + 1) (by simp; omega); simpa [Nat.add_assoc, Nat.add_comm 1 j] using this) (by simp only [List.length_cons] at hk; omega) (inv.set hr' hkn) hB' hK)
end

/-- A drawn region whose first n operations only read and call; what is left is asked of every order. -/
theorem wp_region_head {P : Program} {id : Nat} {Q : Exit → Act → World → Prop} {a : Act} {w : World} {l : List Oper} (n g : Nat) (L0 : Array Bool) (hm : P.follows .mixedOrders = true)
    (hsel : Region.noSelect l.toArray = true) (hs : Region.sinkB .any l.toArray n = true) (hc : chainW .any l.toArray n = true) (hd : (Region.ready .any l.toArray L0).all (fun j => decide (n ≤ j)) = true) (hB : headB .any l.toArray L0 n 0 (Array.replicate l.toArray.size false) = true) (hg : l.length = n + g)
    (h : wpQuiet P l.toArray (fun w' => ∃ u : Later w, w' = u.world) (fun a' => ∀ w', (∃ u : Later w, w' = u.world) → wpAny P .any l.toArray Q g L0 a' w') (l.take n) a) : (Code.region id l.toArray true).wp P Q a w := by
  have htl : (l.take n).length = n := by simp; omega
  have inv0 : HeadInv .any l.toArray n (Array.replicate l.toArray.size false) :=
    ⟨by simp, fun j oj _ hl => (by rw [getD_replicate_false] at hl; cases hl), fun t _ ht => getD_in (by simpa using ht) (getD_replicate_false _ _)⟩
  have H := anyH_lex (md := .any) (L0 := L0) hsel hs hc (fun j hj => of_decide_eq_true (List.all_eq_true.1 hd j hj)) (l.take n) 0 _ a (fun j hj => by
    have hj' : j < n := by rw [htl] at hj; exact hj
    simp [hj']) (by simpa using htl) inv0 (by rw [htl]; exact hB) h
  refine wp_region_any hm ?_
  have hC : (fun w' => ∃ u : Later w, w' = u.world) w.drew := ⟨⟨w.drew, (Below.refl _ _).drew⟩, rfl⟩
  have := any_of_head (Q' := Q) (g := g) (fun listed a' w' hw' hL => by rw [hL.1]; exact hL.2 w' hw') _ _ _ _ hC H
  rw [htl] at this
  rw [show l.toArray.size = n + g by simpa using hg]
  rw [show l.toArray.size = n + g by simpa using hg] at this
  exact this

/-- Two that reckon, then a store that waits for the first one alone. -/
theorem any_two {P : Program} {ops : Array Oper} {Q : Exit → Act → World → Prop} {a : Act} {w w' : World} {i0 i1 i2 : Nat} {o0 o1 o2 : Oper} {v0 v1 : Value} (L : Array Bool) (h0 : ops[i0]? = some o0) (h1 : ops[i1]? = some o1) (h2 : ops[i2]? = some o2)
    (r0 : Region.ready .any ops L = [i0, i1]) (r1 : Region.ready .any ops (L.setIfInBounds i0 true) = [i1, i2]) (r2 : Region.ready .any ops (L.setIfInBounds i1 true) = [i0]) (r3 : Region.ready .any ops ((L.setIfInBounds i0 true).setIfInBounds i1 true) = [i2])
    (r4 : Region.ready .any ops ((L.setIfInBounds i0 true).setIfInBounds i2 true) = [i1]) (r5 : Region.ready .any ops (((L.setIfInBounds i0 true).setIfInBounds i1 true).setIfInBounds i2 true) = []) (d1 : i1 ≠ i0) (d2 : i2 ≠ i1)
    (q0 : o0.guard = none) (q1 : o1.guard = none) (q2 : o2.guard = none) (q3 : o2.dst = none)
    (e0 : (execOp a.eval o0).run P w = .ok (.value v0) w) (e0' : (execOp (a.put o1.dst v1).eval o0).run P w = .ok (.value v0) w)
    (e1 : (execOp a.eval o1).run P w = .ok (.value v1) w) (e1a : (execOp (a.put o0.dst v0).eval o1).run P w = .ok (.value v1) w) (e1b : (execOp (a.put o0.dst v0).eval o1).run P w' = .ok (.value v1) w')
    (e2 : (execOp (a.put o0.dst v0).eval o2).run P w = .ok .skip w') (e2a : (execOp ((a.put o0.dst v0).put o1.dst v1).eval o2).run P w = .ok .skip w')
    (comm : (a.put o1.dst v1).put o0.dst v0 = (a.put o0.dst v0).put o1.dst v1)
    (h : Q .normal ((a.put o0.dst v0).put o1.dst v1) w') : wpAny P .any ops Q 3 L a w := by
  have pn : ∀ (b : Act) (v : Value), b.put none v = b := fun b v => rfl
  have fin : wpAny P .any ops Q 0 (((L.setIfInBounds i0 true).setIfInBounds i1 true).setIfInBounds i2 true) ((a.put o0.dst v0).put o1.dst v1) w' := ⟨r5, h⟩
  refine any_step [i0, i1] r0 (by simp) fun i hi => ?_
  simp only [List.mem_cons, List.not_mem_nil, or_false] at hi
  rcases hi with rfl | rfl
  · refine wpOp_value h0 q0 e0 (any_step [i1, i2] r1 (by simp) fun j hj => ?_)
    simp only [List.mem_cons, List.not_mem_nil, or_false] at hj
    rcases hj with rfl | rfl
    · refine wpOp_value h1 q1 e1a (any_step [i2] r3 (by simp) fun j hj => ?_)
      simp only [List.mem_cons, List.not_mem_nil, or_false] at hj
      subst hj
      refine wpOp_skip h2 q2 e2a ?_
      rw [q3, pn]
      exact fin
    · refine wpOp_skip h2 q2 e2 ?_
      rw [q3, pn]
      refine any_step [i1] r4 (by simp) fun j hj => ?_
      simp only [List.mem_cons, List.not_mem_nil, or_false] at hj
      subst hj
      refine wpOp_value h1 q1 e1b ?_
      rw [Array.setIfInBounds_comm _ _ d2]
      exact fin
  · refine wpOp_value h1 q1 e1 (any_step [i0] r2 (by simp) fun j hj => ?_)
    simp only [List.mem_cons, List.not_mem_nil, or_false] at hj
    subst hj
    refine wpOp_value h0 q0 e0' ?_
    rw [comm, Array.setIfInBounds_comm _ _ d1]
    refine any_step [i2] r3 (by simp) fun j hj => ?_
    simp only [List.mem_cons, List.not_mem_nil, or_false] at hj
    subst hj
    refine wpOp_skip h2 q2 e2a ?_
    rw [q3, pn]
    exact fin
theorem any_fix {P : Program} {Q : Exit → Act → World → Prop} {a : Act} {w w' : World} {p0 p1 p2 p3 p4 p5 p6 o7 o8 o9 o10 : Oper} {v v0 v1 : Value}
    (r7 : Region.ready .any (p0 :: p1 :: p2 :: p3 :: p4 :: p5 :: p6 :: o7 :: o8 :: o9 :: o10 :: []).toArray #[true, true, true, true, true, true, true, false, false, false, false] = [7])
    (r0 : Region.ready .any (p0 :: p1 :: p2 :: p3 :: p4 :: p5 :: p6 :: o7 :: o8 :: o9 :: o10 :: []).toArray #[true, true, true, true, true, true, true, true, false, false, false] = [8, 9])
    (r1 : Region.ready .any (p0 :: p1 :: p2 :: p3 :: p4 :: p5 :: p6 :: o7 :: o8 :: o9 :: o10 :: []).toArray #[true, true, true, true, true, true, true, true, true, false, false] = [9, 10])
    (r2 : Region.ready .any (p0 :: p1 :: p2 :: p3 :: p4 :: p5 :: p6 :: o7 :: o8 :: o9 :: o10 :: []).toArray #[true, true, true, true, true, true, true, true, false, true, false] = [8])
    (r3 : Region.ready .any (p0 :: p1 :: p2 :: p3 :: p4 :: p5 :: p6 :: o7 :: o8 :: o9 :: o10 :: []).toArray #[true, true, true, true, true, true, true, true, true, true, false] = [10])
    (r4 : Region.ready .any (p0 :: p1 :: p2 :: p3 :: p4 :: p5 :: p6 :: o7 :: o8 :: o9 :: o10 :: []).toArray #[true, true, true, true, true, true, true, true, true, false, true] = [9])
    (r5 : Region.ready .any (p0 :: p1 :: p2 :: p3 :: p4 :: p5 :: p6 :: o7 :: o8 :: o9 :: o10 :: []).toArray #[true, true, true, true, true, true, true, true, true, true, true] = [])
    (q7 : o7.guard = none) (q0 : o8.guard = none) (q1 : o9.guard = none) (q2 : o10.guard = none) (q3 : o10.dst = none)
    (e7 : (execOp a.eval o7).run P w = .ok (.value v) w)
    (e0 : (execOp (a.put o7.dst v).eval o8).run P w = .ok (.value v0) w) (e0' : (execOp ((a.put o7.dst v).put o9.dst v1).eval o8).run P w = .ok (.value v0) w)
    (e1 : (execOp (a.put o7.dst v).eval o9).run P w = .ok (.value v1) w) (e1a : (execOp ((a.put o7.dst v).put o8.dst v0).eval o9).run P w = .ok (.value v1) w) (e1b : (execOp ((a.put o7.dst v).put o8.dst v0).eval o9).run P w' = .ok (.value v1) w')
    (e2 : (execOp ((a.put o7.dst v).put o8.dst v0).eval o10).run P w = .ok .skip w') (e2a : (execOp (((a.put o7.dst v).put o8.dst v0).put o9.dst v1).eval o10).run P w = .ok .skip w')
    (comm : ((a.put o7.dst v).put o9.dst v1).put o8.dst v0 = ((a.put o7.dst v).put o8.dst v0).put o9.dst v1)
    (h : Q .normal (((a.put o7.dst v).put o8.dst v0).put o9.dst v1) w') :
    wpAny P .any (p0 :: p1 :: p2 :: p3 :: p4 :: p5 :: p6 :: o7 :: o8 :: o9 :: o10 :: []).toArray Q 4 #[true, true, true, true, true, true, true, false, false, false, false] a w := by
  refine any_step [7] r7 (by simp) fun i hi => ?_
  simp only [List.mem_cons, List.not_mem_nil, or_false] at hi
  subst hi
  refine wpOp_value (o := o7) rfl q7 e7 ?_
  exact any_two (i0 := 8) (i1 := 9) (i2 := 10) (o0 := o8) (o1 := o9) (o2 := o10) _ rfl rfl rfl r0 r1 r2 r3 r4 r5 (by decide) (by decide) q0 q1 q2 q3 e0 e0' e1 e1a e1b e2 e2a comm h
theorem run_move (P : Program) (a : Act) (o : Oper) (w : World) (x : Operand) (v : Value) (ho : o.op = .move x) (hx : a.eval x = v) : (execOp a.eval o).run P w = .ok (.value v) w := by
  unfold execOp
  simp only [ho, Sem.run_pure, hx]
theorem run_extract (P : Program) (a : Act) (o : Oper) (w : World) (x : Operand) (i : Nat) (vs : Array Value) (v : Value) (ho : o.op = .extract x i) (hx : a.eval x = .tuple vs) (hv : vs[i]? = some v) : (execOp a.eval o).run P w = .ok (.value v) w := by
  unfold execOp
  simp [ho, hx, Instr.extract, hv]
end Go.Proofs.YtplnlmkmaapbaaaDoor
namespace Go.Proofs.YtplnlmkmaapbaaaDoor
open Go Go.RowKit

/-- Thirteen bytes of ones. -/
def F : List Int := mk fun _ => true
theorem F_byt : Byt F := mk_byt _
theorem F_at (k : Nat) (hk : k < 13) : F.getD k 0 = 255 := by unfold F; rw [mk_at _ k hk]; rfl

theorem built1 (L : List Int) (hL : L.length = 13) (w : World) : (Instr.build 37 #[(0, .agg (hv L))]).run Tryd.prog w = .ok (.agg (cv L Z)) w := by
  have hz : ∀ w, (zeroValue 37).run Tryd.prog w = .ok (.agg zeroC) w := fun w => by kernel_rfl
  have hs : ∀ w, (sizeOf 23).run Tryd.prog w = .ok 13 w := fun w => by kernel_rfl
  have hsz : (hv L).size = 13 := by rw [hv_size, hL]
  have hfold : (hv L).zipIdx.foldl (fun cs (x : Value × Nat) => cs.setIfInBounds (0 + x.2) x.1) zeroC = cv L Z := by
    have e : (hv L).zipIdx.foldl (fun cs (x : Value × Nat) => cs.setIfInBounds (0 + x.2) x.1) zeroC = ((hv L).toList.zipIdx 0).foldl (fun cs (x : Value × Nat) => cs.setIfInBounds (0 + x.2) x.1) zeroC := by
      rw [← Array.foldl_toList]; simp
    rw [e]
    apply Array.ext_getElem?
    intro k
    rw [fold_get 0 (hv L).toList 0 zeroC k (by simp [hsz])]
    simp only [Array.length_toList, hsz, Nat.zero_add, Nat.sub_zero]
    by_cases hk : k < 13
    · rw [if_pos (by omega), Array.getElem?_toList, hv_at L hL k hk, cv_val L Z hL k hk]
    · rw [if_neg (by omega), zeroC_eq]
      by_cases h2 : k < 26
      · have e2 : k = 13 + (k - 13) := by omega
        rw [e2, cv_mask Z Z Z_byt.1 Z_byt.1 _ (by omega), cv_mask L Z hL Z_byt.1 _ (by omega)]
      · rw [Array.getElem?_eq_none (by rw [cv_size _ _ Z_byt.1 Z_byt.1]; omega), Array.getElem?_eq_none (by rw [cv_size _ _ hL Z_byt.1]; omega)]
  have hfill : ∀ pl : Nat → Option (Nat × Nat), pl 0 = some (0, 13) → Instr.fill pl zeroC [(0, .agg (hv L))] = some (cv L Z) := fun pl h0 => by
    simp only [Instr.fill, h0, Value.cells, hsz]
    rw [if_neg (by simp)]
    exact congrArg some hfold
  simp only [Instr.build, Sem.run_bind, hz, run_underlying Tryd.underlying37, Result.andThen_ok, Value.cells]
  simp [Sem.run_bind, hs, hfill]

theorem wl_buildC {ops : Array Oper} {rest : List Oper} {o : Oper} {a : Act} {w : World} {Q : Exit → Act → World → Prop} (hg : o.guard = none) (x : Operand) (ho : o.op = .build 37 #[(0, x)]) (L : List Int) (hL : L.length = 13) (hx : a.eval x = .agg (hv L))
    (h : wpList Tryd.prog ops Q rest (a.put o.dst (.agg (cv L Z))) w) : wpList Tryd.prog ops Q (o :: rest) a w :=
  wpList_plain hg fun _ hK => by
    unfold Oper.wp execOp
    have e : (#[(0, x)] : Array (Nat × Operand)).map (fun (i, x) => (i, a.eval x)) = #[(0, .agg (hv L))] := by simp [hx]
    simp only [ho, Sem.run_bind]
    rw [e, built1 L hL]
    exact hK _ _ h

set_option maxHeartbeats 2000000 in
theorem right_any (V M : List Int) (hV : Byt V) (hM : Byt M) (w : World) :
    Calls Tryd.prog 16 #[.agg (cv V M)] w fun e w' => e = .returned (.bool (V == can V M)) ∧ Below w.heap.size w w' := by
  have hVl := hV.1
  have hMl := hM.1
  have hCl := (can_byt V M).1
  have C1 : Hid (∀ W, Calls Tryd.prog 28 #[.agg (cv V M)] W fun e w' => e = .returned (.agg (cv (can V M) M)) ∧ Below W.heap.size W w') := canon_any V M hV hM
  have eC : ∀ w, (Op.equalIn 10000 37 (.agg (cv V M)) (.agg (cv (can V M) M))).run Tryd.prog w = .ok (V == can V M) w := fun w => by rw [eqC V M (can V M) M hVl hMl hCl hMl]; simp
  have eg : ∀ op x y (xs ys : Array Value) w, (eqGuard op 37 x y (.agg xs) (.agg ys)).run Tryd.prog w = .ok () w := egC
  clear hV hM
  go_enter Tryd.func16, Tryd.ntmps16
  go_wp2_with fail
  have g0 := heap_new w (.cells (cv V M) 37) _ rfl
  have hb := (Below.refl w.heap.size w).alloc (Nat.le_refl _) (.cells (cv V M) 37)
  obtain ⟨W, hW⟩ : ∃ W, W = w.alloc (.cells (cv V M) 37) := ⟨_, rfl⟩
  rw [← hW] at g0 hb ⊢
  clear hW
  have ne1 := Later.ne W
  refine wp_region_later (by kernel_rfl) (by kernel_rfl) ?_
  refine qlC rfl _ rfl w.heap.size rfl V M g0 hVl hMl ?_
  simp only [Act.put, List.setIfInBounds_toArray, List.set_cons_succ, List.set_cons_zero]
  refine qlC rfl _ rfl w.heap.size rfl V M g0 hVl hMl ?_
  simp only [Act.put, List.setIfInBounds_toArray, List.set_cons_succ, List.set_cons_zero]
  go_big_quiet_want; go_big_quiet_op
  refine ⟨_, fun u => Calls.later_of (C1.out u.world), ?_⟩
  go_big_quiet_on
  repeat go_big_quiet_step (fail)
  refine wpQuiet_nil ?_
  rintro w' ⟨u, rfl⟩
  go_wp2
  go_ret
  exact ⟨rfl, hb.trans (u.below.mono hb.size)⟩
end Go.Proofs.YtplnlmkmaapbaaaDoor
