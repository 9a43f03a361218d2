import Derived.Test.YtjfbahpaahlidaaDoorBase
import Derived.OrdersHeld
namespace Go.Proofs.YtjfbahpaahlidaaDoor
open Go Go.RowKit

/-- An operation that only reckons or reads. -/
def isRead (o : Oper) : Bool :=
  match o.op with
  | .move _ | .load _ _ | .binOp _ _ _ _ _ | .indexAddr _ _ _ => true
  | _ => false

theorem read_value {P : Program} {ρ : Operand → Value} {o : Oper} (h : isRead o = true) (w : World) (nx : Next) (w' : World) (hr : (execOp ρ o).run P w = .ok nx w') : ∃ u, nx = .value u := by
  unfold isRead at h
  unfold execOp at hr
  split at h
  · rename_i x e
    simp only [e, Sem.run_pure, Result.ok.injEq] at hr
    exact ⟨_, hr.1.symm⟩
  · rename_i t x e
    simp only [e, Sem.run_bind, Sem.run_pure] at hr
    revert hr
    generalize (Instr.loadAt t (ρ x)).run P w = r
    intro hr
    cases r with
    | ok a w1 => simp only [Result.andThen_ok, Result.ok.injEq] at hr; exact ⟨_, hr.1.symm⟩
    | halt x w1 => simp [Result.andThen] at hr
  · rename_i op t x y z e
    simp only [e, Sem.run_bind, Sem.run_pure] at hr
    revert hr
    generalize ((eqGuard op t x y (ρ x) (ρ y)).run P w).andThen (fun _ w' => (binOp op t (ρ x) (ρ y)).run P w') = r
    intro hr
    cases r with
    | ok a w1 => simp only [Result.andThen_ok, Result.ok.injEq] at hr; exact ⟨_, hr.1.symm⟩
    | halt x w1 => simp [Result.andThen] at hr
  · rename_i t x y e
    simp only [e, Sem.run_bind, Sem.run_pure] at hr
    revert hr
    generalize (Instr.indexAt t (ρ x) (ρ y)).run P w = r
    intro hr
    cases r with
    | ok a w1 => simp only [Result.andThen_ok, Result.ok.injEq] at hr; exact ⟨_, hr.1.symm⟩
    | halt x w1 => simp [Result.andThen] at hr
  · cases h

theorem yieldsIf_of_in {P : Program} {ops : Array Oper} {S : World → Prop} {o : Oper} {v : Value} {a : Act} (h : isRead o = true) (hy : YieldsIn P ops S o v a) : YieldsIf P ops S o v a := by
  rcases hy with ⟨hw, hv⟩ | hn
  · refine .inl ⟨hw, fun w hS => ?_⟩
    have hq := hv w hS
    unfold Oper.quietAt at hq
    cases hr : (execOp a.eval o).run P w with
    | ok nx w' =>
      obtain ⟨u, rfl⟩ := read_value h w nx w' hr
      rw [hr] at hq
      obtain ⟨rfl, rfl⟩ := hq
      rfl
    | halt x w' => rw [hr] at hq; exact hq.elim
  · exact .inr hn

def headFrom (md : Region.Mode) (ops : Array Oper) : Nat → Nat → Array Bool → Bool
  | 0, _, _ => true
  | f + 1, k, listed => (Region.ready md ops listed).contains k && Region.free md ops listed k && headFrom md ops f (k + 1) (listed.setIfInBounds k true)
def listedFrom : Nat → Nat → Array Bool → Array Bool
  | 0, _, l => l
  | f + 1, k, l => listedFrom f (k + 1) (l.setIfInBounds k true)

theorem reads_held {P : Program} {md : Region.Mode} {ops : Array Oper} {Q : Exit → Act → World → Prop} {S : World → Prop} {g : Nat} (hs : Region.noSelect ops = true) (hQ : ∀ d v c a w, Q (.panic c) (Act.put a d v) w → Q (.panic c) a w) (w : World) (hS : S w) :
    ∀ (l : List Oper) (k : Nat) (listed : Array Bool) (a : Act), (∀ j, j < l.length → l[j]? = ops[k + j]?) → headFrom md ops l.length k listed = true → l.all isRead = true →
      wpQuiet P ops S (fun a' => wpAnyH P md ops Q S g (listedFrom l.length k listed) a' w) l a → wpAnyH P md ops Q S (l.length + g) listed a w
  | [], _, _, _, _, _, _, h => by simpa [wpQuiet, listedFrom] using h
  | o :: l, k, listed, a, hl, hB, hr, h => by
    have h0 : ops[k]? = some o := by simpa using (hl 0 (by simp)).symm
    simp only [List.length_cons, headFrom, Bool.and_eq_true] at hB
    simp only [List.all_cons, Bool.and_eq_true] at hr
    have hst : qOp P ops S k (wpQuiet P ops S (fun a' => wpAnyH P md ops Q S g (listedFrom (o :: l).length k listed) a' w) l) a := by
      unfold qOp; simp only [h0]; exact h
    obtain ⟨v, hy, hK⟩ := yieldsIn_of_qOp h0 hst
    have ih := reads_held hs hQ w hS l (k + 1) (listed.setIfInBounds k true) (a.put o.dst v) (fun j hj => by
      have := hl (j + 1) (by simp; omega)
      simpa [Nat.add_assoc, Nat.add_comm 1 j] using this) hB.2 hr.2 hK
    rw [show (o :: l).length + g = (l.length + g) + 1 by simp; omega]
    exact wpAnyH_take h0 hs hB.1.2 hB.1.1 (fun c a w => hQ o.dst v c a w) (yieldsIf_of_in hr.1 hy) hS ih

/-- A region that draws its order: its first n operations only read, and may come first; what is left is asked of every order. -/
theorem wp_region_reads {P : Program} {id : Nat} {Q : Exit → Act → World → Prop} {a : Act} {w : World} {l : List Oper} (n g : Nat) (hng : (l.take n).length + g = l.toArray.size) (hm : P.follows .mixedOrders = true) (hs : Region.noSelect l.toArray = true)
    (hB : headFrom .any l.toArray (l.take n).length 0 (Array.replicate l.toArray.size false) = true) (hr : (l.take n).all isRead = true) (hQ : ∀ d v c a w, Q (.panic c) (Act.put a d v) w → Q (.panic c) a w)
    (h : wpQuiet P l.toArray (fun w' => ∃ u : Later w, w' = u.world) (fun a' => wpAnyH P .any l.toArray Q (fun w' => ∃ u : Later w, w' = u.world) g (listedFrom (l.take n).length 0 (Array.replicate l.toArray.size false)) a' w.drew) (l.take n) a) :
    (Code.region id l.toArray true).wp P Q a w := by
  refine wp_region_held (S := fun w' => ∃ u : Later w, w' = u.world) hm ?_
  rw [← hng]
  rw [← hng] at h hB
  exact reads_held hs hQ w.drew ⟨⟨w.drew, (Below.refl _ _).drew⟩, rfl⟩ (l.take n) 0 _ a (fun j hj => by
    simp only [List.length_take] at hj
    simp [show j < n by omega]) hB hr h

theorem wpOp_wanted {P : Program} {ops : Array Oper} {Q : Exit → Act → World → Prop} {i : Nat} {o : Oper} {K : Act → World → Prop} {a : Act} {w : World} (hi : ops[i]? = some o) (hw : Region.wanted o (yielded ops a.tmps) = true) (h : o.wp P a w K Q) : wpOp P ops Q i K a w := by
  unfold Go.wpOp
  simp only [hi, hw, if_true]
  exact .inl h

theorem run_call12 (a : Act) (o : Oper) (xs : Array Operand) (ts : Array TypeId) (ho : o.op = .call { callee := .value (.func 12), args := xs, argTypes := ts }) (w : World) : (execOp a.eval o).run Tryd.prog w = .ok (.enter 12 (xs.map a.eval)) w := by
  obtain ⟨dst, op, ty, pos, after, guard⟩ := o
  subst ho
  have hf := Tryd.func12
  simp [go_sem]
theorem wpOp_call12 {ops : Array Oper} {Q : Exit → Act → World → Prop} {i : Nat} {o : Oper} {K : Act → World → Prop} {a : Act} {w : World} (hi : ops[i]? = some o) (hw : Region.wanted o (yielded ops a.tmps) = true) (x1 x2 x3 x4 x5 : Operand) (ts : Array TypeId)
    (ho : o.op = .call { callee := .value (.func 12), args := #[x1, x2, x3, x4, x5], argTypes := ts }) (v1 v2 v3 v4 v5 : Value) (h1 : a.eval x1 = v1) (h2 : a.eval x2 = v2) (h3 : a.eval x3 = v3) (h4 : a.eval x4 = v4) (h5 : a.eval x5 = v5)
    (v : Value) (C : World → Prop) (h : Calls Tryd.prog 12 #[v1, v2, v3, v4, v5] w fun e w' => e = .returned v ∧ C w') (d : Option Tmp) (hd : o.dst = d) (hK : ∀ w', C w' → K (a.put d v) w') : wpOp Tryd.prog ops Q i K a w := by
  subst hd
  refine wpOp_wanted hi hw ?_
  unfold Oper.wp
  have ha : (#[x1, x2, x3, x4, x5] : Array Operand).map a.eval = #[v1, v2, v3, v4, v5] := by simp [h1, h2, h3, h4, h5]
  rw [run_call12 a o _ ts ho w, ha]
  refine h.mono ?_
  rintro e w' ⟨rfl, hc⟩
  exact hK w' hc
theorem run_alloc26 (a : Act) (o : Oper) (ho : o.op = .alloc 26) (w : World) : (execOp a.eval o).run Tryd.prog w = .ok (.value (.pointer (some ⟨w.heap.size, 0, none⟩))) (w.alloc (.cells #[.int .u8 0, .int .u8 0, .int .u8 0, .int .u8 0, .int .u8 0, .int .u8 0, .int .u8 0, .int .u8 0, .int .u8 0, .int .u8 0, .int .u8 0, .int .u8 0, .int .u8 0] 26)) := by
  obtain ⟨dst, op, ty, pos, after, guard⟩ := o
  subst ho
  simp [go_sem]
theorem wpOp_alloc26 {ops : Array Oper} {Q : Exit → Act → World → Prop} {i : Nat} {o : Oper} {K : Act → World → Prop} {a : Act} {w : World} (hi : ops[i]? = some o) (hw : Region.wanted o (yielded ops a.tmps) = true) (ho : o.op = .alloc 26) (d : Option Tmp) (hd : o.dst = d)
    (hK : K (a.put d (.pointer (some ⟨w.heap.size, 0, none⟩))) (w.alloc (.cells #[.int .u8 0, .int .u8 0, .int .u8 0, .int .u8 0, .int .u8 0, .int .u8 0, .int .u8 0, .int .u8 0, .int .u8 0, .int .u8 0, .int .u8 0, .int .u8 0, .int .u8 0] 26))) : wpOp Tryd.prog ops Q i K a w := by
  subst hd
  refine wpOp_wanted hi hw ?_
  unfold Oper.wp
  rw [run_alloc26 a o ho w]
  exact hK
theorem wpOp_store26 {ops : Array Oper} {Q : Exit → Act → World → Prop} {i : Nat} {o : Oper} {K : Act → World → Prop} {a : Act} {w : World} (hi : ops[i]? = some o) (hw : Region.wanted o (yielded ops a.tmps) = true) (x y : Operand) (ho : o.op = .store 26 x y)
    (g : Nat) (L : List Int) (hx : a.eval x = .pointer (some ⟨g, 0, none⟩)) (hy : a.eval y = .agg (hv L)) (old : Array Value) (hg : w.heap[g]? = some (.cells old 26 (0, 0))) (hold : old.size = 13) (hL : L.length = 13) (d : Option Tmp) (hd : o.dst = d)
    (hK : K (a.put d undef) (w.setRow g (hv L))) : wpOp Tryd.prog ops Q i K a w := by
  subst hd
  exact wpOp_wanted hi hw (wp_store_row 26 x y ho g (hv L) hx hy 26 old hg (size26 L hL) (by rw [hv_size, hold, hL]) (hv_one L) hK)
end Go.Proofs.YtjfbahpaahlidaaDoor
