import Derived.Test.YtojhckjdkafpmaaJ1
import Derived.Test.YtojhckjdkafpmaaJ2
import Derived.OrdersHeld
import Derived.Test.YtojhckjdkafpmaaJ7
import Derived.Test.YtojhckjdkafpmaaJ5
import Derived.Shelf.SlSortCmp.KitK
import Derived.Deep.LoopGhost
import Derived.Deep.CutRange
import Derived.Test.YtojhckjdkafpmaaJ4
import Derived.Laws.AppendOwnNone
namespace Go.Proofs.Ytojhckjdkafpmaa
open Go Go.RowKit
set_option maxRecDepth 20000

/-- An operation that only reckons or reads. -/
def isRead (o : Oper) : Bool :=
  match o.op with
  | .move _ | .load _ _ | .binOp _ _ _ _ _ | .indexAddr _ _ _ | .extract _ _ | .assign _ | .fieldAddr _ _ _ | .slice _ _ _ _ _ => true
  | _ => false

theorem read_value {P : Program} {ρ : Operand → Value} {o : Oper} (h : isRead o = true) (w : World) (nx : Next) (w' : World) (hr : (execOp ρ o).run P w = .ok nx w') : ∃ u, nx = .value u := by
  unfold isRead at h
  unfold execOp at hr
  split at h
  · rename_i x e
    simp only [e, Sem.run_pure, Result.ok.injEq] at hr
    exact ⟨_, hr.1.symm⟩
  · rename_i t x e
    simp only [e, Sem.run_bind, Sem.run_pure] at hr
    revert hr
    generalize (Instr.loadAt t (ρ x)).run P w = r
    intro hr
    cases r with
    | ok a w1 => simp only [Result.andThen_ok, Result.ok.injEq] at hr; exact ⟨_, hr.1.symm⟩
    | halt x w1 => simp [Result.andThen] at hr
  · rename_i op t x y z e
    simp only [e, Sem.run_bind, Sem.run_pure] at hr
    revert hr
    generalize ((eqGuard op t x y (ρ x) (ρ y)).run P w).andThen (fun _ w' => (binOp op t (ρ x) (ρ y)).run P w') = r
    intro hr
    cases r with
    | ok a w1 => simp only [Result.andThen_ok, Result.ok.injEq] at hr; exact ⟨_, hr.1.symm⟩
    | halt x w1 => simp [Result.andThen] at hr
  · rename_i t x y e
    simp only [e, Sem.run_bind, Sem.run_pure] at hr
    revert hr
    generalize (Instr.indexAt t (ρ x) (ρ y)).run P w = r
    intro hr
    cases r with
    | ok a w1 => simp only [Result.andThen_ok, Result.ok.injEq] at hr; exact ⟨_, hr.1.symm⟩
    | halt x w1 => simp [Result.andThen] at hr
  · rename_i x i e
    simp only [e, Sem.run_bind, Sem.run_pure] at hr
    revert hr
    generalize (Instr.extract (ρ x) i).run P w = r
    intro hr
    cases r with
    | ok a w1 => simp only [Result.andThen_ok, Result.ok.injEq] at hr; exact ⟨_, hr.1.symm⟩
    | halt x w1 => simp [Result.andThen] at hr
  · rename_i x e
    simp only [e, Sem.run_pure, Result.ok.injEq] at hr
    exact ⟨_, hr.1.symm⟩
  · rename_i t x i e
    simp only [e, Sem.run_bind, Sem.run_pure] at hr
    revert hr
    generalize (Instr.fieldAt t (ρ x) i).run P w = r
    intro hr
    cases r with
    | ok a w1 => simp only [Result.andThen_ok, Result.ok.injEq] at hr; exact ⟨_, hr.1.symm⟩
    | halt x w1 => simp [Result.andThen] at hr
  · rename_i t x lo hi mx e
    simp only [e, Sem.run_bind, Sem.run_pure] at hr
    revert hr
    generalize (Instr.sliceAt t (ρ x) (lo.map ρ) (hi.map ρ) (mx.map ρ)).run P w = r
    intro hr
    cases r with
    | ok a w1 => simp only [Result.andThen_ok, Result.ok.injEq] at hr; exact ⟨_, hr.1.symm⟩
    | halt x w1 => simp [Result.andThen] at hr
  · cases h

theorem yieldsIf_of_in {P : Program} {ops : Array Oper} {S : World → Prop} {o : Oper} {v : Value} {a : Act} (h : isRead o = true) (hy : YieldsIn P ops S o v a) : YieldsIf P ops S o v a := by
  rcases hy with ⟨hw, hv⟩ | hn
  · refine .inl ⟨hw, fun w hS => ?_⟩
    have hq := hv w hS
    unfold Oper.quietAt at hq
    cases hr : (execOp a.eval o).run P w with
    | ok nx w' =>
      obtain ⟨u, rfl⟩ := read_value h w nx w' hr
      rw [hr] at hq
      obtain ⟨rfl, rfl⟩ := hq
      rfl
    | halt x w' => rw [hr] at hq; exact hq.elim
  · exact .inr hn

def headFrom (md : Region.Mode) (ops : Array Oper) : Nat → Nat → Array Bool → Bool
  | 0, _, _ => true
  | f + 1, k, listed => (Region.ready md ops listed).contains k && Region.free md ops listed k && headFrom md ops f (k + 1) (listed.setIfInBounds k true)
def listedFrom : Nat → Nat → Array Bool → Array Bool
  | 0, _, l => l
  | f + 1, k, l => listedFrom f (k + 1) (l.setIfInBounds k true)

theorem reads_held {P : Program} {md : Region.Mode} {ops : Array Oper} {Q : Exit → Act → World → Prop} {S : World → Prop} {g : Nat} (hs : Region.noSelect ops = true) (hQ : ∀ d v c a w, Q (.panic c) (Act.put a d v) w → Q (.panic c) a w) (w : World) (hS : S w) :
    ∀ (l : List Oper) (k : Nat) (listed : Array Bool) (a : Act), (∀ j, j < l.length → l[j]? = ops[k + j]?) → headFrom md ops l.length k listed = true → l.all isRead = true →
      wpQuiet P ops S (fun a' => wpAnyH P md ops Q S g (listedFrom l.length k listed) a' w) l a → wpAnyH P md ops Q S (l.length + g) listed a w
  | [], _, _, _, _, _, _, h => by simpa [wpQuiet, listedFrom] using h
  | o :: l, k, listed, a, hl, hB, hr, h => by
    have h0 : ops[k]? = some o := by simpa using (hl 0 (by simp)).symm
    simp only [List.length_cons, headFrom, Bool.and_eq_true] at hB
    simp only [List.all_cons, Bool.and_eq_true] at hr
    have hst : qOp P ops S k (wpQuiet P ops S (fun a' => wpAnyH P md ops Q S g (listedFrom (o :: l).length k listed) a' w) l) a := by
      unfold qOp; simp only [h0]; exact h
    obtain ⟨v, hy, hK⟩ := yieldsIn_of_qOp h0 hst
    have ih := reads_held hs hQ w hS l (k + 1) (listed.setIfInBounds k true) (a.put o.dst v) (fun j hj => by
      have := hl (j + 1) (by simp; omega)
      simpa [Nat.add_assoc, Nat.add_comm 1 j] using this) hB.2 hr.2 hK
    rw [show (o :: l).length + g = (l.length + g) + 1 by simp; omega]
    exact wpAnyH_take h0 hs hB.1.2 hB.1.1 (fun c a w => hQ o.dst v c a w) (yieldsIf_of_in hr.1 hy) hS ih

/-- A drawn region, from its beginning. -/
theorem region_begin {P : Program} {id : Nat} {Q : Exit → Act → World → Prop} {a : Act} {w : World} {lo : List Oper} (n : Nat) (hn : lo.length = n) (hm : P.follows .mixedOrders = true)
    (h : wpAnyH P .any lo.toArray Q (fun w' => ∃ u : Later w, w' = u.world) n (Array.replicate n false) a w.drew) : (Code.region id lo.toArray true).wp P Q a w := by
  refine wp_region_held (S := fun w' => ∃ u : Later w, w' = u.world) hm ?_
  rw [show lo.toArray.size = n by simpa using hn]
  exact h
/-- The same with a class of worlds of one's own. -/
theorem region_beginS {P : Program} {id : Nat} {Q : Exit → Act → World → Prop} {a : Act} {w : World} {lo : List Oper} (S : World → Prop) (n : Nat) (hn : lo.length = n) (hm : P.follows .mixedOrders = true)
    (h : wpAnyH P .any lo.toArray Q S n (Array.replicate n false) a w.drew) : (Code.region id lo.toArray true).wp P Q a w := by
  refine wp_region_held (S := S) hm ?_
  rw [show lo.toArray.size = n by simpa using hn]
  exact h
/-- n operations, from number k on, that only read, are taken first. -/
theorem region_reads {P : Program} {Q : Exit → Act → World → Prop} {S : World → Prop} {a : Act} {w : World} {lo : List Oper} {listed : Array Bool} (k n g : Nat) (hl : ((lo.drop k).take n).length = n) (hs : Region.noSelect lo.toArray = true)
    (hB : headFrom .any lo.toArray n k listed = true) (hr : ((lo.drop k).take n).all isRead = true) (hQ : ∀ d v c a w, Q (.panic c) (Act.put a d v) w → Q (.panic c) a w) (hS : S w)
    (h : wpQuiet P lo.toArray S (fun a' => wpAnyH P .any lo.toArray Q S g (listedFrom n k listed) a' w) ((lo.drop k).take n) a) : wpAnyH P .any lo.toArray Q S (n + g) listed a w := by
  have := reads_held (P := P) (md := .any) (Q := Q) (g := g) hs hQ w hS ((lo.drop k).take n) k listed a (fun j hj => by
    rw [hl] at hj
    rw [List.getElem?_take_of_lt hj, List.getElem?_drop]
    simp) (by rw [hl]; exact hB) hr (by rw [hl]; exact h)
  rwa [hl] at this
theorem noPanic {F : Act → World → Prop} : ∀ (d : Option Tmp) (v : Value) c (a : Act) (w : World), (fun (e : Exit) a w => e = .normal ∧ F a w) (.panic c) (Act.put a d v) w → (fun (e : Exit) a w => e = .normal ∧ F a w) (.panic c) a w :=
  fun _ _ _ _ _ h => absurd h.1 (by simp)
/-- A cut behind a region. -/
theorem region_cut {P : Program} {c : Code} {Q : Exit → Act → World → Prop} {a : Act} {w : World} (F : Act → Act → World → Prop) (h1 : c.wp P (fun e a' w' => e = .normal ∧ F a a' w') a w) (h2 : ∀ a' w', F a a' w' → Q .normal a' w') : c.wp P Q a w :=
  Code.wp_mono (by rintro e a' w' ⟨rfl, h⟩; exact h2 a' w' h) h1

theorem wpOp_wanted {P : Program} {ops : Array Oper} {Q : Exit → Act → World → Prop} {i : Nat} {o : Oper} {K : Act → World → Prop} {a : Act} {w : World} (hi : ops[i]? = some o) (hw : Region.wanted o (yielded ops a.tmps) = true) (h : o.wp P a w K Q) : wpOp P ops Q i K a w := by
  unfold Go.wpOp
  simp only [hi, hw, if_true]
  exact .inl h
theorem wpOp_call {ops : Array Oper} {Q : Exit → Act → World → Prop} {i : Nat} {o : Oper} {K : Act → World → Prop} {a : Act} {w : World} (hi : ops[i]? = some o) (hw : Region.wanted o (yielded ops a.tmps) = true) (f : FuncId) (xs : Array Operand)
    (hf : ∀ (b : Act) (w : World), (execOp b.eval o).run Try.prog w = .ok (.enter f (xs.map b.eval)) w) (vs : Array Value) (hvs : xs.toList.map a.eval = vs.toList)
    (D : Value → World → Prop) (h : Calls Try.prog f vs w fun e w' => ∃ v, e = .returned v ∧ D v w') (d : Option Tmp) (hd : o.dst = d) (hK : ∀ v w', D v w' → K (a.put d v) w') : wpOp Try.prog ops Q i K a w := by
  subst hd
  refine wpOp_wanted hi hw ?_
  unfold Oper.wp
  rw [hf a w, show xs.map a.eval = vs from Array.ext' (by rw [Array.toList_map]; exact hvs)]
  refine h.mono ?_
  rintro e w' ⟨v, rfl, hc⟩
  exact hK v w' hc
theorem wpOp_allocC {ops : Array Oper} {Q : Exit → Act → World → Prop} {i : Nat} {o : Oper} {K : Act → World → Prop} {a : Act} {w : World} (hi : ops[i]? = some o) (hw : Region.wanted o (yielded ops a.tmps) = true) (ho : o.op = .alloc 36) (d : Option Tmp) (hd : o.dst = d)
    (hK : K (a.put d (.pointer (some ⟨w.heap.size, 0, none⟩))) (w.alloc (.cells zeroC 36))) : wpOp Try.prog ops Q i K a w := by
  subst hd
  refine wpOp_wanted hi hw ?_
  obtain ⟨dst, op, ty, pos, after, guard⟩ := o
  subst ho
  unfold Oper.wp
  have : ∀ (b : Act), (execOp b.eval ⟨dst, .alloc 36, ty, pos, after, guard⟩).run Try.prog w = .ok (.value (.pointer (some ⟨w.heap.size, 0, none⟩))) (w.alloc (.cells zeroC 36)) := fun b => by simp [go_sem]
  rw [this a]
  exact hK
theorem wpOp_alloc26 {ops : Array Oper} {Q : Exit → Act → World → Prop} {i : Nat} {o : Oper} {K : Act → World → Prop} {a : Act} {w : World} (hi : ops[i]? = some o) (hw : Region.wanted o (yielded ops a.tmps) = true) (ho : o.op = .alloc 34) (d : Option Tmp) (hd : o.dst = d)
    (hK : K (a.put d (.pointer (some ⟨w.heap.size, 0, none⟩))) (w.alloc (.cells zero26 34))) : wpOp Try.prog ops Q i K a w := by
  subst hd
  refine wpOp_wanted hi hw ?_
  obtain ⟨dst, op, ty, pos, after, guard⟩ := o
  subst ho
  unfold Oper.wp
  have : ∀ (b : Act), (execOp b.eval ⟨dst, .alloc 34, ty, pos, after, guard⟩).run Try.prog w = .ok (.value (.pointer (some ⟨w.heap.size, 0, none⟩))) (w.alloc (.cells zero26 34)) := fun b => by simp [go_sem]
  rw [this a]
  exact hK
theorem wpOp_store26 {ops : Array Oper} {Q : Exit → Act → World → Prop} {i : Nat} {o : Oper} {K : Act → World → Prop} {a : Act} {w : World} (hi : ops[i]? = some o) (hw : Region.wanted o (yielded ops a.tmps) = true) (x y : Operand) (ho : o.op = .store 34 x y)
    (g : Nat) (L : List Int) (hx : a.eval x = .pointer (some ⟨g, 0, none⟩)) (hy : a.eval y = .agg (hv L)) (old : Array Value) (hg : w.heap[g]? = some (.cells old 34 (0, 0))) (hold : old.size = 13) (hL : L.length = 13) (d : Option Tmp) (hd : o.dst = d)
    (hK : K (a.put d undef) (w.setRow g (hv L))) : wpOp Try.prog ops Q i K a w := by
  subst hd
  exact wpOp_wanted hi hw (wp_store_row 34 x y ho g (hv L) hx hy 34 old hg (size26 L hL) (by rw [hv_size, hold, hL]) (hv_one L) hK)
theorem wpOp_storeC {ops : Array Oper} {Q : Exit → Act → World → Prop} {i : Nat} {o : Oper} {K : Act → World → Prop} {a : Act} {w : World} (hi : ops[i]? = some o) (hw : Region.wanted o (yielded ops a.tmps) = true) (x y : Operand) (ho : o.op = .store 36 x y)
    (g : Nat) (V M : List Int) (hx : a.eval x = .pointer (some ⟨g, 0, none⟩)) (hy : a.eval y = .agg (cv V M)) (old : Array Value) (hg : w.heap[g]? = some (.cells old 36 (0, 0))) (hold : old.size = 26) (hV : V.length = 13) (hM : M.length = 13) (d : Option Tmp) (hd : o.dst = d)
    (hK : K (a.put d undef) (w.setRow g (cv V M))) : wpOp Try.prog ops Q i K a w := by
  subst hd
  exact wpOp_wanted hi hw (wp_store_row 36 x y ho g (cv V M) hx hy 36 old hg (sizeC V M hV hM) (by rw [cv_size V M hV hM, hold]) (cv_one V M) hK)
theorem wpOp_assign {P : Program} {ops : Array Oper} {Q : Exit → Act → World → Prop} {i : Nat} {o : Oper} {K : Act → World → Prop} {a : Act} {w : World} (hi : ops[i]? = some o) (hw : Region.wanted o (yielded ops a.tmps) = true) (x : Operand) (ho : o.op = .assign x) (v : Value) (hx : a.eval x = v) (d : Option Tmp) (hd : o.dst = d)
    (hK : K (a.put d v) w) : wpOp P ops Q i K a w := by
  subst hd hx
  refine wpOp_wanted hi hw ?_
  unfold Oper.wp execOp
  simp only [ho, Sem.run_pure]
  exact hK
end Go.Proofs.Ytojhckjdkafpmaa
namespace Go.Proofs.Ytojhckjdkafpmaa
open Go Go.RowKit
set_option maxRecDepth 20000

/-- What a search for the first comes to. -/
def Found0 (p : Slt → Bool) (C : List Slt) (c : Int) : Prop :=
  (c = -1 ∧ leastF p (fun _ => 0) C = none) ∨ ∃ (i : Nat) (x : Slt), c = (i : Int) ∧ i < C.length ∧ C[i]? = some x ∧ leastF p (fun _ => 0) C = some (C.take i, x, C.drop (i + 1))
theorem found0_hit {p : Slt → Bool} {C : List Slt} {k : Nat} {x : Slt} (h : ∀ j y, j < k → C[j]? = some y → p y = false) (hx : C[k]? = some x) (hp : p x = true) : Found0 p C (k : Int) := by
  refine .inr ⟨k, x, rfl, (List.getElem?_eq_some_iff.1 hx).1, hx, leastF_iff.2 ⟨?_, hp, fun y hy hm => ?_, fun y _ _ => Int.le_refl _⟩⟩
  · have e := (List.getElem?_eq_some_iff.1 hx).2
    rw [← e, List.getElem_cons_drop, List.take_append_drop]
  · obtain ⟨j, hj⟩ := List.mem_iff_getElem?.1 hy
    have hj' := (List.getElem?_eq_some_iff.1 hj).1
    rw [List.length_take] at hj'
    rw [List.getElem?_take_of_lt (by omega)] at hj
    rw [h j y (by omega) hj] at hm; cases hm
theorem found0_none {p : Slt → Bool} {C : List Slt} (h : ∀ j y, j < C.length → C[j]? = some y → p y = false) : Found0 p C (-1) :=
  .inl ⟨rfl, leastF_none.2 fun y hy => by
    obtain ⟨j, hj⟩ := List.mem_iff_getElem?.1 hy
    exact h j y (List.getElem?_eq_some_iff.1 hj).1 hj⟩
theorem below_step {B : Nat} {w wr w' : World} (hb : Below B w wr) (hB : B ≤ wr.heap.size) (h : Below wr.heap.size wr w') : Below B w w' := hb.trans (h.mono hB)
/-- A closure that says of a slot whether. -/
def ClosB (K : World → Prop) (f : Nat) (cb : Array Value) (p : Slt → Bool) : Prop := ∀ x W, K W → Calls Try.prog f (#[.agg (slotV x)] ++ cb) W fun e W' => e = .returned (.bool (p x)) ∧ Below W.heap.size W W'
set_option maxHeartbeats 4000000 in
theorem index_any (C : List Slt) (v : Value) (w : World) (hl : GSl SlotE slotV w v C) (hn : C.length ≤ 1000000) (f : Nat) (cb : Array Value) (p : Slt → Bool) (eg : ∀ args w, (callFunc f args).run Try.prog w = .ok (.enter f args) w) (hc : ClosB (fun W => Below w.heap.size w W) f cb p) :
    Calls Try.prog 47 #[v, .func (.func f) #[] cb] w fun e w' => (∃ c, e = .returned (.int .i64 c) ∧ Found0 p C c) ∧ Below w.heap.size w w' := by
  obtain ⟨o, cap, rfl, hc1, hc2⟩ := GSl.slice hl
  obtain ⟨n, hn0⟩ : ∃ n, n = C.length := ⟨_, rfl⟩
  have HN : Hid (n = C.length) := hn0
  rw [← hn0] at hl hc1 hn ⊢
  have HL : Hid (GSl SlotE slotV w (.slice o n cap) C) := hl
  have HC : Hid (ClosB (fun W => Below w.heap.size w W) f cb p) := hc
  unfold maxLen at hc2
  clear hl hn0 hc
  go_enter Try.func47, Try.ntmps47
  go_wp2_with fail
  go_loopw [8] (fun i wr => ∃ k : Nat, k ≤ n ∧ i = .int .i64 (k : Int) ∧ Hid (∀ j y, j < k → C[j]? = some y → p y = false) ∧ Hid (Below w.heap.size w wr)) (fun i _ => n - (intOf i).toNat)
  case atStart => exact ⟨0, Nat.zero_le _, rfl, fun j y hj => by omega, Below.refl _ _⟩
  case round =>
    obtain ⟨k, hk, rfl, HP, HB⟩ := hrel
    by_cases hlt : k < n
    · have hlt' : (k : Int) < (n : Int) := by omega
      obtain ⟨g, off, cur, ty, fr, x, rfl, hg, hcc, hxk⟩ := (GSl.below HL.out HB.out).at k hlt
      have K1 : Hid (wr.heap[g]? = some (.cells cur ty fr)) := hg
      have H1 : Hid (∀ j, j < 36 → cur[off + k * 36 + j]? = (slotV x)[j]?) := hcc
      have HX : Hid (C[k]? = some x) := hxk
      clear hg hcc hxk
      have hcall := HC.out x wr HB.out
      cases hp : p x with
      | true =>
        rw [hp] at hcall
        have HPX : Hid (p x = true) := hp
        clear hp
        go_wp2_with (refine wl_loadE (E := SlotE) SlotOk rfl _ rfl g (off + k * 36) rfl cur ty fr (slotV x) (slotV_size x) K1.out H1.out ?_)
        refine hcall.mono ?_
        rintro e w1 ⟨rfl, hb1⟩
        go_wp2_with fail
        go_ret
        exact ⟨⟨_, rfl, found0_hit HP.out HX.out HPX.out⟩, below_step HB.out HB.out.size hb1⟩
      | false =>
        rw [hp] at hcall
        have HPX : Hid (p x = false) := hp
        clear hp
        go_wp2_with (refine wl_loadE (E := SlotE) SlotOk rfl _ rfl g (off + k * 36) rfl cur ty fr (slotV x) (slotV_size x) K1.out H1.out ?_)
        refine hcall.mono ?_
        rintro e w1 ⟨rfl, hb1⟩
        go_wp2_with fail
        go_roundw
        case rel =>
          refine ⟨k + 1, by omega, by go_num, fun j y hj hy => ?_, below_step HB.out HB.out.size hb1⟩
          by_cases e : j = k
          · subst e
            rw [HX.out] at hy
            cases hy
            exact HPX.out
          · exact HP.out j y (by omega) hy
        case measure => simp [intOf]; omega
    · have hlt' : ¬ (k : Int) < (n : Int) := by omega
      have HK : Hid (k = n) := by show _ = _; omega
      go_wp2_with fail
      go_ret
      exact ⟨⟨_, rfl, found0_none fun j y hj hy => HP.out j y (by have h1 := HK.out; have h2 := HN.out; omega) hy⟩, HB.out⟩
/-- .. and whether there is one. -/
theorem contains_any (C : List Slt) (v : Value) (w : World) (hl : GSl SlotE slotV w v C) (hn : C.length ≤ 1000000) (f : Nat) (cb : Array Value) (p : Slt → Bool) (eg : ∀ args w, (callFunc f args).run Try.prog w = .ok (.enter f args) w) (hc : ClosB (fun W => Below w.heap.size w W) f cb p) :
    Calls Try.prog 41 #[v, .func (.func f) #[] cb] w fun e w' => e = .returned (.bool (C.any p)) ∧ Below w.heap.size w w' := by
  have HI := index_any C v w hl hn f cb p eg hc
  have key : Hid (∀ c, Found0 p C c → decide (0 ≤ c) = C.any p) := fun c h => by
    rcases h with ⟨rfl, h⟩ | ⟨i, x, rfl, hi, hx, _⟩
    · have := leastF_none.1 h
      symm
      simp only [Int.reduceNeg, Int.reduceLE, decide_false, List.any_eq_false]
      intro y hy
      rw [this y hy]; simp
    · rename_i hl
      have h2 := (leastF_some hl).2.1
      symm
      simp only [Int.natCast_nonneg, decide_true, List.any_eq_true]
      exact ⟨x, List.mem_of_getElem? hx, h2⟩
  clear hl hc
  obtain ⟨fv, hfv⟩ : ∃ fv, fv = Value.func (.func f) #[] cb := ⟨_, rfl⟩
  rw [← hfv] at HI ⊢
  have HI' : Hid (∀ W, W = w → Calls Try.prog 47 #[v, fv] W fun e w' => (∃ c, e = .returned (.int .i64 c) ∧ Found0 p C c) ∧ Below w.heap.size w w') := fun W hW => by subst hW; exact HI
  clear HI hfv
  go_enter Try.func41, Try.ntmps41
  go_wp2_with (go_at_call 47; refine (HI'.out _ rfl).mono ?_; rintro e w1 ⟨⟨c, rfl, hf⟩, hb1⟩)
  go_ret
  exact ⟨ret_bool (key.out c hf), hb1⟩
end Go.Proofs.Ytojhckjdkafpmaa
namespace Go.Proofs.Ytojhckjdkafpmaa
open Go Go.RowKit
set_option maxRecDepth 20000

def keyC (e : Int) (s : Slt) (x : Slt) : Bool := x.epoch == e && (pad x.cube.1 == pad s.cube.1 && pad x.cube.2 == pad s.cube.2)
/-- A cube within a block, from a place on. -/
theorem cube_row {w : World} {g off : Nat} {cur : Array Value} {ty : TypeId} {fr : Nat × Nat} {x : Slt} (_ : w.heap[g]? = some (.cells cur ty fr)) (hc : ∀ j, j < 36 → cur[off + j]? = (slotV x)[j]?) : ∀ j, j < 26 → cur[off + 4 + j]? = (cv (pad x.cube.1) (pad x.cube.2))[j]? := fun j hj => by
  rw [Nat.add_assoc, hc (4 + j) (by omega), slotV_cube x j hj]
def CubE : El := ⟨36, 36, 26, 26, zeroC⟩
theorem cub_load {w : World} {g off : Nat} {cur : Array Value} {t : TypeId} {fr : Nat × Nat} {V M : List Int} (hV : V.length = 13) (hM : M.length = 13) (hg : w.heap[g]? = some (.cells cur t fr)) (hc : ∀ j, j < 26 → cur[off + j]? = (cv V M)[j]?) :
    (loadVar 36 ⟨g, off, none⟩).run Try.prog w = .ok (.agg (cv V M)) w := by
  have hl : (loadCells ⟨g, off, none⟩ (cv V M).toList.length).run Try.prog w = .ok (cv V M).toList.toArray w :=
    run_loadCells_list (P := Try.prog) w ⟨g, off, none⟩ (cv V M).toList (fun j v hv => by
      have hadd : (⟨g, off, none⟩ : Addr).add j = ⟨g, off + j, none⟩ := by unfold Addr.add; split <;> simp_all
      have hj : j < 26 := by
        have := (List.getElem?_eq_some_iff.1 hv).1
        rw [Array.length_toList, cv_size V M hV hM] at this
        omega
      rw [hadd, cell_of_row w g (off + j) cur t fr hg, hc j hj]
      simpa using hv)
  have hz : ∀ w, (sizeOf 36).run Try.prog w = .ok 26 w := fun w => by kernel_rfl
  have ha : ∀ w, (isAgg 36).run Try.prog w = .ok true w := fun w => by kernel_rfl
  rw [Array.length_toList, cv_size V M hV hM, Array.toArray_toList] at hl
  simp [loadVar, Sem.run_bind, ha, hz, hl]
theorem wl_loadCw {ops : Array Oper} {rest : List Oper} {o : Oper} {a : Act} {w : World} {Q : Exit → Act → World → Prop} (hw : Region.wanted o (yielded ops a.tmps) = true) (x : Operand) (ho : o.op = .load 36 x)
    (g off : Nat) (hx : a.eval x = .pointer (some ⟨g, off, none⟩)) (cur : Array Value) (t : TypeId) (fr : Nat × Nat) (V M : List Int) (hV : V.length = 13) (hM : M.length = 13) (hg : w.heap[g]? = some (.cells cur t fr)) (hc : ∀ j, j < 26 → cur[off + j]? = (cv V M)[j]?)
    (h : wpList Try.prog ops Q rest (a.put o.dst (.agg (cv V M))) w) : wpList Try.prog ops Q (o :: rest) a w := by
  refine wpList_step fun K hK => ?_
  rw [if_pos hw]
  unfold Oper.wp execOp
  simp only [ho, hx, Instr.loadAt, Instr.sureAddr, Sem.run_bind, Sem.run_pure, Result.andThen_ok, cub_load hV hM hg hc]
  exact hK _ _ h

set_option maxHeartbeats 4000000 in
theorem learn1_any (x s : Slt) (e : Int) (w : World) (p q : Nat) (tp : TypeId) (he : w.heap[p]? = some (.cells #[.int .i64 e] tp (0, 0))) (hs : w.heap[q]? = some (.cells (slotV s) 38 (0, 0))) :
    Calls Try.prog 48 #[.agg (slotV x), .pointer (some ⟨p, 0, none⟩), .pointer (some ⟨q, 0, none⟩)] w fun r w' => r = .returned (.bool (keyC e s x)) ∧ Below w.heap.size w w' := by
  have c1 := (new_slf w x 38).c1
  have c2 : (w.alloc (.cells (slotV x) 38)).cell? ⟨p, 0, none⟩ = some (.int .i64 e) := by rw [cell_of_row _ _ _ _ _ _ (heap_past w (.cells (slotV x) 38) _ _ he)]; rfl
  have K1 : Hid ((w.alloc (.cells (slotV x) 38)).heap[w.heap.size]? = some (.cells (slotV x) 38 (0, 0))) := heap_new _ _ _ rfl
  have K2 : Hid ((w.alloc (.cells (slotV x) 38)).heap[q]? = some (.cells (slotV s) 38 (0, 0))) := heap_past w (.cells (slotV x) 38) _ _ hs
  have E : ∀ W, (Op.equalIn 10000 36 (.agg (cv (pad x.cube.1) (pad x.cube.2))) (.agg (cv (pad s.cube.1) (pad s.cube.2)))).run Try.prog W = .ok (pad x.cube.1 == pad s.cube.1 && pad x.cube.2 == pad s.cube.2) W := fun W => eqC _ _ _ _ (pad_len _) (pad_len _) (pad_len _) (pad_len _) W
  have G := egC
  obtain ⟨b, hb⟩ : ∃ b, b = (pad x.cube.1 == pad s.cube.1 && pad x.cube.2 == pad s.cube.2) := ⟨_, rfl⟩
  rw [← hb] at E
  have HR : Hid (keyC e s x = (x.epoch == e && b)) := by show _ = _; unfold keyC; rw [hb]
  rw [HR.out]
  clear hb he hs HR
  obtain ⟨xe, hxe⟩ : ∃ xe, xe = x.epoch := ⟨_, rfl⟩
  rw [← hxe] at c1 ⊢
  clear hxe
  by_cases h1 : xe = e
  · subst h1
    go_enter Try.func48, Try.ntmps48
    go_wp2_with (first
      | (refine wl_loadCw rfl _ rfl w.heap.size 4 rfl _ _ _ (pad x.cube.1) (pad x.cube.2) (pad_len _) (pad_len _) K1.out (slotV_cube x) ?_)
      | (refine wl_loadCw rfl _ rfl q 4 rfl _ _ _ (pad s.cube.1) (pad s.cube.2) (pad_len _) (pad_len _) K2.out (slotV_cube s) ?_))
    go_ret
    exact ⟨by simp, (Below.refl _ _).alloc (Nat.le_refl _) _⟩
  · go_enter Try.func48, Try.ntmps48
    go_wp2_with fail
    go_ret
    exact ⟨by simp [h1], (Below.refl _ _).alloc (Nat.le_refl _) _⟩
set_option maxHeartbeats 4000000 in
theorem lay1_any (x s : Slt) (w : World) (q : Nat) (hs : w.heap[q]? = some (.cells (slotV s) 38 (0, 0))) :
    Calls Try.prog 42 #[.agg (slotV x), .pointer (some ⟨q, 0, none⟩)] w fun r w' => r = .returned (.bool (atS s x)) ∧ Below w.heap.size w w' := by
  have c1 := (new_slf w x 38).c1
  have c2 := (new_slf w x 38).c2
  have d1 := (slf_own (heap_past w (.cells (slotV x) 38) _ _ hs)).c1
  have d2 := (slf_own (heap_past w (.cells (slotV x) 38) _ _ hs)).c2
  have HR : Hid (atS s x = (x.epoch == s.epoch && x.place == s.place)) := rfl
  rw [HR.out]
  clear HR hs
  generalize x.epoch = a1 at c1 ⊢
  generalize x.place = a2 at c2 ⊢
  generalize s.epoch = b1 at d1 ⊢
  generalize s.place = b2 at d2 ⊢
  by_cases h1 : a1 = b1
  · subst h1
    by_cases h2 : a2 = b2
    · subst h2
      go_enter Try.func42, Try.ntmps42
      go_wp2_with fail
      go_ret
      exact ⟨by simp, (Below.refl _ _).alloc (Nat.le_refl _) _⟩
    · go_enter Try.func42, Try.ntmps42
      go_wp2_with fail
      go_ret
      exact ⟨by simp, (Below.refl _ _).alloc (Nat.le_refl _) _⟩
  · go_enter Try.func42, Try.ntmps42
    go_wp2_with fail
    go_ret
    exact ⟨by simp [h1], (Below.refl _ _).alloc (Nat.le_refl _) _⟩
set_option maxHeartbeats 4000000 in
theorem keep1_any (x : Slt) (a b : Int) (w : World) (p q : Nat) (tp tq : TypeId) (hp : w.heap[p]? = some (.cells #[.int .i64 a] tp (0, 0))) (hq : w.heap[q]? = some (.cells #[.int .i64 b] tq (0, 0))) :
    Calls Try.prog 63 #[.agg (slotV x), .pointer (some ⟨p, 0, none⟩), .pointer (some ⟨q, 0, none⟩)] w fun r w' => r = .returned (.bool (!(keptE a b x))) ∧ Below w.heap.size w w' := by
  have c1 := (new_slf w x 38).c1
  have c2 : (w.alloc (.cells (slotV x) 38)).cell? ⟨p, 0, none⟩ = some (.int .i64 a) := by rw [cell_of_row _ _ _ _ _ _ (heap_past w (.cells (slotV x) 38) _ _ hp)]; rfl
  have c3 : (w.alloc (.cells (slotV x) 38)).cell? ⟨q, 0, none⟩ = some (.int .i64 b) := by rw [cell_of_row _ _ _ _ _ _ (heap_past w (.cells (slotV x) 38) _ _ hq)]; rfl
  have HR : Hid (keptE a b x = ((x.epoch == a) || (x.epoch == b))) := rfl
  rw [HR.out]
  clear HR hp hq
  generalize x.epoch = z at c1 ⊢
  by_cases h1 : z = a
  · subst h1
    go_enter Try.func63, Try.ntmps63
    go_wp2_with fail
    go_ret
    exact ⟨by simp, (Below.refl _ _).alloc (Nat.le_refl _) _⟩
  · by_cases h2 : z = b
    · subst h2
      go_enter Try.func63, Try.ntmps63
      go_wp2_with fail
      go_ret
      exact ⟨by simp, (Below.refl _ _).alloc (Nat.le_refl _) _⟩
    · go_enter Try.func63, Try.ntmps63
      go_wp2_with fail
      go_ret
      exact ⟨by simp; rfl, (Below.refl _ _).alloc (Nat.le_refl _) _⟩
set_option maxHeartbeats 4000000 in
theorem evict1_any (x y : Slt) (w : World) : Calls Try.prog 66 #[.agg (slotV x), .agg (slotV y)] w fun e w' => e = .returned (.int .i64 (cmpT x.used y.used)) ∧ Below w.heap.size w w' := by
  have HC : Hid (∀ a b W, Calls Try.prog 62 #[.int .i64 a, .int .i64 b] W fun e w' => e = .returned (.int .i64 (cmpT a b)) ∧ w' = W) := compareT_any
  have c1 := (SlF.below (w' := (w.alloc (.cells (slotV x) 38)).alloc (.cells (slotV y) 38)) (new_slf w x 38) (Below.heap_alloc _ _ _ (by simp))).c34
  have c2 := (new_slf (w.alloc (.cells (slotV x) 38)) y 38).c34
  rw [show (w.alloc (.cells (slotV x) 38)).heap.size = w.heap.size + 1 by simp] at c2
  go_enter Try.func66, Try.ntmps66
  go_wp2_with (go_at_call 62; refine (HC.out _ _ _).mono ?_; rintro e w' ⟨rfl, rfl⟩)
  go_ret
  exact ⟨rfl, ((Below.refl _ _).alloc (Nat.le_refl _) _).alloc (by simp) _⟩
set_option maxHeartbeats 4000000 in
theorem evict2_any (x s : Slt) (w : World) (q : Nat) (hs : w.heap[q]? = some (.cells (slotV s) 38 (0, 0))) :
    Calls Try.prog 67 #[.agg (slotV x), .pointer (some ⟨q, 0, none⟩)] w fun r w' => r = .returned (.bool (eqS x s)) ∧ Below w.heap.size w w' := by
  have K1 : Hid ((w.alloc (.cells (slotV x) 38)).heap[w.heap.size]? = some (.cells (slotV x) 38 (0, 0))) := heap_new _ _ _ rfl
  have K2 : Hid ((w.alloc (.cells (slotV x) 38)).heap[q]? = some (.cells (slotV s) 38 (0, 0))) := heap_past w (.cells (slotV x) 38) _ _ hs
  have E := eqSlot x s
  have G := egS
  clear hs
  go_enter Try.func67, Try.ntmps67
  go_wp2_with (first
    | (refine wl_loadE (E := SlotE) SlotOk rfl _ rfl w.heap.size 0 rfl _ _ _ (slotV x) (slotV_size x) K1.out (own_cells _ _) ?_)
    | (refine wl_loadE (E := SlotE) SlotOk rfl _ rfl q 0 rfl _ _ _ (slotV s) (slotV_size s) K2.out (own_cells _ _) ?_))
  go_ret
  exact ⟨rfl, (Below.refl _ _).alloc (Nat.le_refl _) _⟩
end Go.Proofs.Ytojhckjdkafpmaa
namespace Go.Proofs.Ytojhckjdkafpmaa
open Go
set_option maxRecDepth 20000

section
variable {α : Type} {p : α → Int}
/-- Sorted block by block, from a place on. -/
def BlkD (p : α → Int) (f : Nat → α) (s lo n : Nat) : Prop := ∀ i j, lo ≤ i → i < j → j < n → i / s = j / s → p (f j) ≤ p (f i)
theorem div_ge {t q j : Nat} (ht : 0 < t) (h : t * q ≤ j) : q ≤ j / t := (Nat.le_div_iff_mul_le ht).2 (by rw [Nat.mul_comm]; exact h)
theorem ge_of_div {t q i : Nat} (ht : 0 < t) (h : q ≤ i / t) : t * q ≤ i := by
  have := (Nat.le_div_iff_mul_le ht).1 h
  rwa [Nat.mul_comm] at this
theorem div_of_in {t q i : Nat} (h1 : t * q ≤ i) (h2 : i < t * q + t) : i / t = q := by
  refine Nat.div_eq_of_lt_le ?_ ?_
  · rw [Nat.mul_comm]; exact h1
  · rw [Nat.add_mul, Nat.one_mul, Nat.mul_comm q t]; exact h2
theorem Merged.whole {f g : Nat → α} {a b n : Nat} (h : Merged p f g a b) (hab : a ≤ b) (hb : b ≤ n) : Alike p (segF g 0 n) (segF f 0 n) := by
  have e : ∀ u : Nat → α, segF u 0 n = segF u 0 a ++ (segF u a (b - a) ++ segF u b (n - b)) := fun u => by
    rw [show n = a + ((b - a) + (n - b)) by omega, segF_add, segF_add, show 0 + a + (b - a) = b by omega, Nat.zero_add, show a + (b - a + (n - b)) - b = n - b by omega]
  rw [e, e]
  refine Alike.app ?_ (Alike.app h.alike ?_)
  · rw [segF_congr (f := g) (g := f) (a := 0) (b := 0) fun i hi => h.out _ (by omega)]; exact Alike.refl _ _
  · rw [segF_congr (f := g) (g := f) (a := b) (b := b) fun i hi => h.out _ (by omega)]; exact Alike.refl _ _
/-- A block more. -/
theorem blk_more {f g : Nat → α} {t q n b : Nat} (ht : 0 < t) (h : BlkD p f t 0 (t * q)) (hb1 : t * q ≤ b) (hb2 : b ≤ t * q + t) (m : Merged p f g (t * q) b) (hn : n = b) : BlkD p g t 0 n := by
  subst hn
  intro i j _ hij hj he
  by_cases c : t * q ≤ j
  · have hi : t * q ≤ i := ge_of_div ht (by rw [he]; exact div_ge ht c)
    exact m.desc i j hi hij hj
  · rw [m.out i (by omega), m.out j (by omega)]
    exact h i j (Nat.zero_le _) hij (by omega) he
/-- What lies behind stays. -/
theorem blk_behind {f g : Nat → α} {s a b n : Nat} (h : BlkD p f s a n) (hab : a ≤ b) (m : Merged p f g a b) : BlkD p g s b n := fun i j hi hij hj he => by
  rw [m.out i (by omega), m.out j (by omega)]
  exact h i j (by omega) hij hj he
theorem blk_desc {f : Nat → α} {s q a n : Nat} (h : BlkD p f s a n) (ha : a ≤ s * q) {b : Nat} (hb : b ≤ s * q + s) (hn : b ≤ n) : DescF p f (s * q) b := fun i j hi hij hj =>
  h i j (by omega) hij (by omega) (by rw [div_of_in hi (by omega), div_of_in (t := s) (q := q) (i := j) (by omega) (by omega)])
theorem blk_all {f : Nat → α} {s n : Nat} (h : BlkD p f s 0 n) (hs : n ≤ s) : DescF p f 0 n := fun i j hi hij hj =>
  h i j hi hij hj (by rw [Nat.div_eq_of_lt (by omega), Nat.div_eq_of_lt (by omega)])
theorem blk_none (f : Nat → α) (s : Nat) : BlkD p f s 0 0 := fun i j _ _ hj _ => by omega
theorem blk_from {f : Nat → α} {s n : Nat} (h : BlkD p f s 0 n) (a : Nat) : BlkD p f s a n := fun i j _ hij hj he => h i j (Nat.zero_le _) hij hj he
theorem blk_upto {f : Nat → α} {s lo n m : Nat} (h : BlkD p f s lo n) (hm : m ≤ n) : BlkD p f s lo m := fun i j hi hij hj he => h i j hi hij (by omega) he
end
end Go.Proofs.Ytojhckjdkafpmaa
namespace Go.Proofs.Ytojhckjdkafpmaa
open Go Go.Shelf Go.RowKit Go.Lib Go.Sort
set_option maxRecDepth 20000

theorem ltOf_ltP {β : Type} {p : β → Int} {cf : β → β → Int} (hcf : ∀ x y, cf x y < 0 ↔ p y < p x) : ltOf cf = ltP p := by
  funext x y
  unfold ltOf ltP
  rw [Bool.eq_iff_iff, decide_eq_true_iff, decide_eq_true_iff]
  exact hcf x y
variable {α : Type} [Inhabited α]
theorem CmpLays.on {P : Program} {enc : α → List Value} {k : Nat} {cf : α → α → Int} {g : Nat} {cb : Array Value} {blk off size : Nat} {w0 W : World} {d : Array α} (hC : CmpLays P g cb enc k cf blk off size w0) (h : SWK enc k w0 blk off d W) (hblk : blk < w0.heap.size) (hs : d.size = size) : CmpLays P g cb enc k cf blk off size W := by
  intro m os dk hd x y
  obtain ⟨n, os0, rfl⟩ := h
  rw [sortWorldK_on enc k w0 blk off n m d dk os0 os hblk (by omega)]
  exact hC _ _ dk hd x y
end Go.Proofs.Ytojhckjdkafpmaa
namespace Go.Proofs.Ytojhckjdkafpmaa
open Go Go.Shelf Go.RowKit Go.Lib Go.Sort
set_option maxRecDepth 20000

section
variable {α : Type} [Inhabited α]
theorem segF_all (d : Array α) : segF (arrF d) 0 d.size = d.toList := by
  apply List.ext_getElem?
  intro i
  unfold segF arrF
  by_cases hi : i < d.size
  · simp [hi]
  · simp [hi]
theorem gcells_len {β : Type} {enc : β → Array Value} {k : Nat} (hk : ∀ x, (enc x).size = k) (C : List β) : (gcells enc C).length = C.length * k := by
  induction C with
  | nil => simp [gcells]
  | cons c C ih => rw [gcells_cons, List.length_append, ih, Array.length_toList, hk, List.length_cons, Nat.add_mul, Nat.one_mul, Nat.add_comm]
theorem gcells_get {enc : α → Array Value} {k : Nat} (hk : ∀ x, (enc x).size = k) (C : List α) (t : Nat) (ht : t < C.length * k) : (gcells enc C)[t]? = some ((enc C.toArray[t / k]!).toList[t % k]!) := by
  have k0 : 0 < k := by
    rcases Nat.eq_zero_or_pos k with h | h
    · subst h; simp at ht
    · exact h
  have hi : t / k < C.length := (Nat.div_lt_iff_lt_mul k0).2 ht
  have hj : t % k < k := Nat.mod_lt _ k0
  have := gcells_at enc k C (fun c _ => hk c) (t / k) hi (t % k) hj
  rw [Nat.div_add_mod] at this
  rw [this]
  have e : C.toArray[t / k]! = C[t / k] := by simp [hi]
  rw [e]
  simp [hk, hj]
/-- A row of one's own, as the sort has it. -/
theorem holds_of_own {enc : α → Array Value} {k : Nat} (hk : ∀ x, (enc x).size = k) {w : World} {g : Nat} {cur : Array Value} {ty : TypeId} {C : List α} (hg : w.heap[g]? = some (.cells cur ty (0, 0))) (hc : cur.toList.take (C.length * k) = gcells enc C) :
    HoldsK (fun x => (enc x).toList) k w g 0 C.toArray := by
  intro t ht
  rw [size_flatK] at ht
  have ht' : t < C.length * k := by simpa using ht
  rw [get_flatK _ _ _ _ ht]
  refine ⟨?_, ?_⟩
  · rw [Nat.zero_add, cell_of_row w g t cur ty _ hg]
    have h1 := gcells_get hk C t ht'
    rw [← hc, List.getElem?_take_of_lt ht', Array.getElem?_toList] at h1
    exact h1
  · simp [World.frozen?, hg]
theorem SWK.grownBy {enc : α → List Value} {k : Nat} {w W : World} {g off : Nat} {d : Array α} (h : SWK enc k w g off d W) : w.grownBy W (some g) := by
  obtain ⟨n, os, rfl⟩ := h
  refine ⟨rfl, rfl, rfl, ?_, fun j hj hne => ?_⟩
  · unfold sortWorldK
    rw [size_grow, size_putRowK]
    exact Nat.le_add_right _ _
  · unfold sortWorldK grow putRowK putRow mapBlock Sort.ahead
    have : g ≠ j := fun e => hne (by rw [e])
    rw [Array.getElem?_append_left (by simpa using hj), Array.getElem?_modify, if_neg this]
/-- .. and as it is then. -/
theorem own_of_swk {enc : α → Array Value} {k : Nat} (hk : ∀ x, (enc x).size = k) {w W : World} {g : Nat} {cur : Array Value} {ty : TypeId} {d : Array α} (h : SWK (fun x => (enc x).toList) k w g 0 d W) (hg : w.heap[g]? = some (.cells cur ty (0, 0))) (hc : d.size * k ≤ cur.size) :
    ∃ cur', W.heap[g]? = some (.cells cur' ty (0, 0)) ∧ cur'.size = cur.size ∧ cur'.toList.take (d.size * k) = gcells enc d.toList := by
  obtain ⟨n, os, rfl⟩ := h
  have hlt : g < w.heap.size := (Array.getElem?_eq_some_iff.1 hg).1
  refine ⟨putCells id 0 (flatK (fun x => (enc x).toList) k d) cur, ?_, ?_, ?_⟩
  · unfold sortWorldK grow putRowK putRow mapBlock Sort.ahead
    simp only
    rw [Array.getElem?_append_left (by simpa using hlt), Array.getElem?_modify, if_pos rfl, hg]
    rfl
  · simp [putCells]
  · apply List.ext_getElem?
    intro t
    by_cases ht : t < d.size * k
    · rw [List.getElem?_take_of_lt ht]
      have := gcells_get hk d.toList t (by simpa using ht)
      rw [this, Array.getElem?_toList]
      unfold putCells
      rw [Array.getElem?_mapIdx, Array.getElem?_eq_getElem (by omega), Option.map_some, if_pos (by rw [size_flatK]; omega), Nat.sub_zero, get_flatK _ _ _ _ ht]
      simp
    · rw [List.getElem?_take_eq_none (by omega), List.getElem?_eq_none (by rw [gcells_len hk]; simp; omega)]
end
/-- A slice's elements appended to one's own row, and where the new row lies. -/
theorem wl_appendL {E : El} (H : E.Ok) {α : Type} (enc : α → Array Value) (hE : ∀ x, Fits E (enc x)) {ops : Array Oper} {rest : List Oper} {o : Oper} {a : Act} {w : World} {Q : Exit → Act → World → Prop} (hgd : o.guard = none) (s x : Operand) (ho : o.op = .call { callee := .builtin .append, args := #[s, x], argTypes := #[E.slice, E.slice] })
    (base base' : Nat) (v u : Value) (C D : List α) (hs : a.eval s = v) (hown : w.ownsRow base E.elem E.size v C.length (gcells enc C)) (hx : a.eval x = u) (hu : w.ownsRow base' E.elem E.size u D.length (gcells enc D))
    (hn : C.length + D.length ≤ 1000000) (hbase : base ≤ w.heap.size)
    (h : ∀ v' w', w'.ownsRow base E.elem E.size v' (C ++ D).length (gcells enc (C ++ D)) → w.grownBy w' v.ownBlock → (v'.ownBlock = v.ownBlock ∨ v'.ownBlock = some w.heap.size) → wpList Try.prog ops Q rest (a.put o.dst v') w') : wpList Try.prog ops Q (o :: rest) a w := by
  obtain ⟨i0, hi, hz0, hz1, hz2⟩ := H.info
  have hb := H.hb
  have hu0 := hu
  have hl : (gcells enc D).length = D.length * E.size := hu.1
  obtain ⟨_, ⟨rfl, h0⟩ | ⟨g, cap, cur, rfl, hB, hcur, h1, h2, h3, h4⟩⟩ := hu
  · have hD0 : D = [] := List.eq_nil_of_length_eq_zero h0
    subst hD0
    refine wpList_append_own_none hgd s x E.slice ho base E.elem i0 E.size H.hs hi v _ _ hs hown hx (h v w ?_ ?_ (.inl rfl))
    · rw [List.append_nil]; exact hown
    · exact ⟨rfl, rfl, rfl, Nat.le_refl _, fun k _ _ => rfl⟩
  · refine wpList_append_own_at w hgd s x E.slice ho base E.elem i0 (.agg E.zero) E.size E.bytes H.hs hi hz0 hz1 hz2 (by simpa [Value.cells] using H.hz) H.hp v _ _ hs hown ⟨g, 0, none⟩ D.length cap (gcells enc D) hx hl (fun j y hy => ?_) (fun y hy => ?_) (by unfold maxLen; omega) ?_ hbase ?_
    · have hj : j < D.length * E.size := by rw [← hl]; exact (List.getElem?_eq_some_iff.1 hy).1
      have hadd : (⟨g, 0, none⟩ : Addr).add j = ⟨g, j, none⟩ := by unfold Addr.add; split <;> simp_all
      rw [hadd, cell_of_row w g j _ _ _ hcur, ← hy, ← h4, List.getElem?_take_of_lt hj, Array.getElem?_toList]
    · unfold gcells at hy
      obtain ⟨c, _, hc⟩ := List.mem_flatMap.1 hy
      exact (Array.all_eq_true_iff_forall_mem.1 (hE c).2) y (by simpa using hc)
    · exact Nat.le_trans (Nat.mul_le_mul (show C.length + D.length ≤ 1000000 by omega) hb) (by decide)
    · intro v' w' h5 h6 _ h7
      refine h v' w' ?_ h6 h7
      rw [List.length_append, gcells_append]; exact h5
end Go.Proofs.Ytojhckjdkafpmaa
