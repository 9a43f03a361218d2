import Derived.Test.YtfbphblodankmaaBase
import Derived.Test.YtfbphblodankmaaCBase
import Derived.OrdersHeld
namespace Go.Proofs.Ytfbphblodankmaa
open Go Go.RowKit
set_option maxRecDepth 20000

/-- An operation that only reckons or reads. -/
def isRead (o : Oper) : Bool :=
  match o.op with
  | .move _ | .load _ _ | .binOp _ _ _ _ _ | .indexAddr _ _ _ | .extract _ _ | .assign _ | .fieldAddr _ _ _ | .slice _ _ _ _ _ => true
  | _ => false

theorem read_value {P : Program} {ρ : Operand → Value} {o : Oper} (h : isRead o = true) (w : World) (nx : Next) (w' : World) (hr : (execOp ρ o).run P w = .ok nx w') : ∃ u, nx = .value u := by
  unfold isRead at h
  unfold execOp at hr
  split at h
  · rename_i x e
    simp only [e, Sem.run_pure, Result.ok.injEq] at hr
    exact ⟨_, hr.1.symm⟩
  · rename_i t x e
    simp only [e, Sem.run_bind, Sem.run_pure] at hr
    revert hr
    generalize (Instr.loadAt t (ρ x)).run P w = r
    intro hr
    cases r with
    | ok a w1 => simp only [Result.andThen_ok, Result.ok.injEq] at hr; exact ⟨_, hr.1.symm⟩
    | halt x w1 => simp [Result.andThen] at hr
  · rename_i op t x y z e
    simp only [e, Sem.run_bind, Sem.run_pure] at hr
    revert hr
    generalize ((eqGuard op t x y (ρ x) (ρ y)).run P w).andThen (fun _ w' => (binOp op t (ρ x) (ρ y)).run P w') = r
    intro hr
    cases r with
    | ok a w1 => simp only [Result.andThen_ok, Result.ok.injEq] at hr; exact ⟨_, hr.1.symm⟩
    | halt x w1 => simp [Result.andThen] at hr
  · rename_i t x y e
    simp only [e, Sem.run_bind, Sem.run_pure] at hr
    revert hr
    generalize (Instr.indexAt t (ρ x) (ρ y)).run P w = r
    intro hr
    cases r with
    | ok a w1 => simp only [Result.andThen_ok, Result.ok.injEq] at hr; exact ⟨_, hr.1.symm⟩
    | halt x w1 => simp [Result.andThen] at hr
  · rename_i x i e
    simp only [e, Sem.run_bind, Sem.run_pure] at hr
    revert hr
    generalize (Instr.extract (ρ x) i).run P w = r
    intro hr
    cases r with
    | ok a w1 => simp only [Result.andThen_ok, Result.ok.injEq] at hr; exact ⟨_, hr.1.symm⟩
    | halt x w1 => simp [Result.andThen] at hr
  · rename_i x e
    simp only [e, Sem.run_pure, Result.ok.injEq] at hr
    exact ⟨_, hr.1.symm⟩
  · rename_i t x i e
    simp only [e, Sem.run_bind, Sem.run_pure] at hr
    revert hr
    generalize (Instr.fieldAt t (ρ x) i).run P w = r
    intro hr
    cases r with
    | ok a w1 => simp only [Result.andThen_ok, Result.ok.injEq] at hr; exact ⟨_, hr.1.symm⟩
    | halt x w1 => simp [Result.andThen] at hr
  · rename_i t x lo hi mx e
    simp only [e, Sem.run_bind, Sem.run_pure] at hr
    revert hr
    generalize (Instr.sliceAt t (ρ x) (lo.map ρ) (hi.map ρ) (mx.map ρ)).run P w = r
    intro hr
    cases r with
    | ok a w1 => simp only [Result.andThen_ok, Result.ok.injEq] at hr; exact ⟨_, hr.1.symm⟩
    | halt x w1 => simp [Result.andThen] at hr
  · cases h

theorem yieldsIf_of_in {P : Program} {ops : Array Oper} {S : World → Prop} {o : Oper} {v : Value} {a : Act} (h : isRead o = true) (hy : YieldsIn P ops S o v a) : YieldsIf P ops S o v a := by
  rcases hy with ⟨hw, hv⟩ | hn
  · refine .inl ⟨hw, fun w hS => ?_⟩
    have hq := hv w hS
    unfold Oper.quietAt at hq
    cases hr : (execOp a.eval o).run P w with
    | ok nx w' =>
      obtain ⟨u, rfl⟩ := read_value h w nx w' hr
      rw [hr] at hq
      obtain ⟨rfl, rfl⟩ := hq
      rfl
    | halt x w' => rw [hr] at hq; exact hq.elim
  · exact .inr hn

def headFrom (md : Region.Mode) (ops : Array Oper) : Nat → Nat → Array Bool → Bool
  | 0, _, _ => true
  | f + 1, k, listed => (Region.ready md ops listed).contains k && Region.free md ops listed k && headFrom md ops f (k + 1) (listed.setIfInBounds k true)
def listedFrom : Nat → Nat → Array Bool → Array Bool
  | 0, _, l => l
  | f + 1, k, l => listedFrom f (k + 1) (l.setIfInBounds k true)

theorem reads_held {P : Program} {md : Region.Mode} {ops : Array Oper} {Q : Exit → Act → World → Prop} {S : World → Prop} {g : Nat} (hs : Region.noSelect ops = true) (hQ : ∀ d v c a w, Q (.panic c) (Act.put a d v) w → Q (.panic c) a w) (w : World) (hS : S w) :
    ∀ (l : List Oper) (k : Nat) (listed : Array Bool) (a : Act), (∀ j, j < l.length → l[j]? = ops[k + j]?) → headFrom md ops l.length k listed = true → l.all isRead = true →
      wpQuiet P ops S (fun a' => wpAnyH P md ops Q S g (listedFrom l.length k listed) a' w) l a → wpAnyH P md ops Q S (l.length + g) listed a w
  | [], _, _, _, _, _, _, h => by simpa [wpQuiet, listedFrom] using h
  | o :: l, k, listed, a, hl, hB, hr, h => by
    have h0 : ops[k]? = some o := by simpa using (hl 0 (by simp)).symm
    simp only [List.length_cons, headFrom, Bool.and_eq_true] at hB
    simp only [List.all_cons, Bool.and_eq_true] at hr
    have hst : qOp P ops S k (wpQuiet P ops S (fun a' => wpAnyH P md ops Q S g (listedFrom (o :: l).length k listed) a' w) l) a := by
      unfold qOp; simp only [h0]; exact h
    obtain ⟨v, hy, hK⟩ := yieldsIn_of_qOp h0 hst
    have ih := reads_held hs hQ w hS l (k + 1) (listed.setIfInBounds k true) (a.put o.dst v) (fun j hj => by
      have := hl (j + 1) (by simp; omega)
      simpa [Nat.add_assoc, Nat.add_comm 1 j] using this) hB.2 hr.2 hK
    rw [show (o :: l).length + g = (l.length + g) + 1 by simp; omega]
    exact wpAnyH_take h0 hs hB.1.2 hB.1.1 (fun c a w => hQ o.dst v c a w) (yieldsIf_of_in hr.1 hy) hS ih

/-- A drawn region, from its beginning. -/
theorem region_begin {P : Program} {id : Nat} {Q : Exit → Act → World → Prop} {a : Act} {w : World} {lo : List Oper} (n : Nat) (hn : lo.length = n) (hm : P.follows .mixedOrders = true)
    (h : wpAnyH P .any lo.toArray Q (fun w' => ∃ u : Later w, w' = u.world) n (Array.replicate n false) a w.drew) : (Code.region id lo.toArray true).wp P Q a w := by
  refine wp_region_held (S := fun w' => ∃ u : Later w, w' = u.world) hm ?_
  rw [show lo.toArray.size = n by simpa using hn]
  exact h
/-- The same with a class of worlds of one's own. -/
theorem region_beginS {P : Program} {id : Nat} {Q : Exit → Act → World → Prop} {a : Act} {w : World} {lo : List Oper} (S : World → Prop) (n : Nat) (hn : lo.length = n) (hm : P.follows .mixedOrders = true)
    (h : wpAnyH P .any lo.toArray Q S n (Array.replicate n false) a w.drew) : (Code.region id lo.toArray true).wp P Q a w := by
  refine wp_region_held (S := S) hm ?_
  rw [show lo.toArray.size = n by simpa using hn]
  exact h
/-- n operations, from number k on, that only read, are taken first. -/
theorem region_reads {P : Program} {Q : Exit → Act → World → Prop} {S : World → Prop} {a : Act} {w : World} {lo : List Oper} {listed : Array Bool} (k n g : Nat) (hl : ((lo.drop k).take n).length = n) (hs : Region.noSelect lo.toArray = true)
    (hB : headFrom .any lo.toArray n k listed = true) (hr : ((lo.drop k).take n).all isRead = true) (hQ : ∀ d v c a w, Q (.panic c) (Act.put a d v) w → Q (.panic c) a w) (hS : S w)
    (h : wpQuiet P lo.toArray S (fun a' => wpAnyH P .any lo.toArray Q S g (listedFrom n k listed) a' w) ((lo.drop k).take n) a) : wpAnyH P .any lo.toArray Q S (n + g) listed a w := by
  have := reads_held (P := P) (md := .any) (Q := Q) (g := g) hs hQ w hS ((lo.drop k).take n) k listed a (fun j hj => by
    rw [hl] at hj
    rw [List.getElem?_take_of_lt hj, List.getElem?_drop]
    simp) (by rw [hl]; exact hB) hr (by rw [hl]; exact h)
  rwa [hl] at this
theorem noPanic {F : Act → World → Prop} : ∀ (d : Option Tmp) (v : Value) c (a : Act) (w : World), (fun (e : Exit) a w => e = .normal ∧ F a w) (.panic c) (Act.put a d v) w → (fun (e : Exit) a w => e = .normal ∧ F a w) (.panic c) a w :=
  fun _ _ _ _ _ h => absurd h.1 (by simp)
/-- A cut behind a region. -/
theorem region_cut {P : Program} {c : Code} {Q : Exit → Act → World → Prop} {a : Act} {w : World} (F : Act → Act → World → Prop) (h1 : c.wp P (fun e a' w' => e = .normal ∧ F a a' w') a w) (h2 : ∀ a' w', F a a' w' → Q .normal a' w') : c.wp P Q a w :=
  Code.wp_mono (by rintro e a' w' ⟨rfl, h⟩; exact h2 a' w' h) h1

theorem wpOp_wanted {P : Program} {ops : Array Oper} {Q : Exit → Act → World → Prop} {i : Nat} {o : Oper} {K : Act → World → Prop} {a : Act} {w : World} (hi : ops[i]? = some o) (hw : Region.wanted o (yielded ops a.tmps) = true) (h : o.wp P a w K Q) : wpOp P ops Q i K a w := by
  unfold Go.wpOp
  simp only [hi, hw, if_true]
  exact .inl h
theorem wpOp_call {ops : Array Oper} {Q : Exit → Act → World → Prop} {i : Nat} {o : Oper} {K : Act → World → Prop} {a : Act} {w : World} (hi : ops[i]? = some o) (hw : Region.wanted o (yielded ops a.tmps) = true) (f : FuncId) (xs : Array Operand)
    (hf : ∀ (b : Act) (w : World), (execOp b.eval o).run Try.prog w = .ok (.enter f (xs.map b.eval)) w) (vs : Array Value) (hvs : xs.toList.map a.eval = vs.toList)
    (D : Value → World → Prop) (h : Calls Try.prog f vs w fun e w' => ∃ v, e = .returned v ∧ D v w') (d : Option Tmp) (hd : o.dst = d) (hK : ∀ v w', D v w' → K (a.put d v) w') : wpOp Try.prog ops Q i K a w := by
  subst hd
  refine wpOp_wanted hi hw ?_
  unfold Oper.wp
  rw [hf a w, show xs.map a.eval = vs from Array.ext' (by rw [Array.toList_map]; exact hvs)]
  refine h.mono ?_
  rintro e w' ⟨v, rfl, hc⟩
  exact hK v w' hc
theorem wpOp_allocC {ops : Array Oper} {Q : Exit → Act → World → Prop} {i : Nat} {o : Oper} {K : Act → World → Prop} {a : Act} {w : World} (hi : ops[i]? = some o) (hw : Region.wanted o (yielded ops a.tmps) = true) (ho : o.op = .alloc 36) (d : Option Tmp) (hd : o.dst = d)
    (hK : K (a.put d (.pointer (some ⟨w.heap.size, 0, none⟩))) (w.alloc (.cells zeroC 36))) : wpOp Try.prog ops Q i K a w := by
  subst hd
  refine wpOp_wanted hi hw ?_
  obtain ⟨dst, op, ty, pos, after, guard⟩ := o
  subst ho
  unfold Oper.wp
  have : ∀ (b : Act), (execOp b.eval ⟨dst, .alloc 36, ty, pos, after, guard⟩).run Try.prog w = .ok (.value (.pointer (some ⟨w.heap.size, 0, none⟩))) (w.alloc (.cells zeroC 36)) := fun b => by simp [go_sem]
  rw [this a]
  exact hK
theorem wpOp_alloc26 {ops : Array Oper} {Q : Exit → Act → World → Prop} {i : Nat} {o : Oper} {K : Act → World → Prop} {a : Act} {w : World} (hi : ops[i]? = some o) (hw : Region.wanted o (yielded ops a.tmps) = true) (ho : o.op = .alloc 34) (d : Option Tmp) (hd : o.dst = d)
    (hK : K (a.put d (.pointer (some ⟨w.heap.size, 0, none⟩))) (w.alloc (.cells zero26 34))) : wpOp Try.prog ops Q i K a w := by
  subst hd
  refine wpOp_wanted hi hw ?_
  obtain ⟨dst, op, ty, pos, after, guard⟩ := o
  subst ho
  unfold Oper.wp
  have : ∀ (b : Act), (execOp b.eval ⟨dst, .alloc 34, ty, pos, after, guard⟩).run Try.prog w = .ok (.value (.pointer (some ⟨w.heap.size, 0, none⟩))) (w.alloc (.cells zero26 34)) := fun b => by simp [go_sem]
  rw [this a]
  exact hK
theorem wpOp_store26 {ops : Array Oper} {Q : Exit → Act → World → Prop} {i : Nat} {o : Oper} {K : Act → World → Prop} {a : Act} {w : World} (hi : ops[i]? = some o) (hw : Region.wanted o (yielded ops a.tmps) = true) (x y : Operand) (ho : o.op = .store 34 x y)
    (g : Nat) (L : List Int) (hx : a.eval x = .pointer (some ⟨g, 0, none⟩)) (hy : a.eval y = .agg (hv L)) (old : Array Value) (hg : w.heap[g]? = some (.cells old 34 (0, 0))) (hold : old.size = 13) (hL : L.length = 13) (d : Option Tmp) (hd : o.dst = d)
    (hK : K (a.put d undef) (w.setRow g (hv L))) : wpOp Try.prog ops Q i K a w := by
  subst hd
  exact wpOp_wanted hi hw (wp_store_row 34 x y ho g (hv L) hx hy 34 old hg (size26 L hL) (by rw [hv_size, hold, hL]) (hv_one L) hK)
theorem wpOp_storeC {ops : Array Oper} {Q : Exit → Act → World → Prop} {i : Nat} {o : Oper} {K : Act → World → Prop} {a : Act} {w : World} (hi : ops[i]? = some o) (hw : Region.wanted o (yielded ops a.tmps) = true) (x y : Operand) (ho : o.op = .store 36 x y)
    (g : Nat) (V M : List Int) (hx : a.eval x = .pointer (some ⟨g, 0, none⟩)) (hy : a.eval y = .agg (cv V M)) (old : Array Value) (hg : w.heap[g]? = some (.cells old 36 (0, 0))) (hold : old.size = 26) (hV : V.length = 13) (hM : M.length = 13) (d : Option Tmp) (hd : o.dst = d)
    (hK : K (a.put d undef) (w.setRow g (cv V M))) : wpOp Try.prog ops Q i K a w := by
  subst hd
  exact wpOp_wanted hi hw (wp_store_row 36 x y ho g (cv V M) hx hy 36 old hg (sizeC V M hV hM) (by rw [cv_size V M hV hM, hold]) (cv_one V M) hK)
theorem wpOp_assign {P : Program} {ops : Array Oper} {Q : Exit → Act → World → Prop} {i : Nat} {o : Oper} {K : Act → World → Prop} {a : Act} {w : World} (hi : ops[i]? = some o) (hw : Region.wanted o (yielded ops a.tmps) = true) (x : Operand) (ho : o.op = .assign x) (v : Value) (hx : a.eval x = v) (d : Option Tmp) (hd : o.dst = d)
    (hK : K (a.put d v) w) : wpOp P ops Q i K a w := by
  subst hd hx
  refine wpOp_wanted hi hw ?_
  unfold Oper.wp execOp
  simp only [ho, Sem.run_pure]
  exact hK
end Go.Proofs.Ytfbphblodankmaa
