import Derived.Test.YtbhnjhiecoapbaaJ1
import Derived.Test.YtbhnjhiecoapbaaJ2
import Derived.OrdersHeld
import Derived.Test.YtbhnjhiecoapbaaJ6
import Derived.Test.YtbhnjhiecoapbaaJ4
import Ieee.Arith
import Derived.Laws.FloatBits
namespace Go.Proofs.Ytbhnjhiecoapbaa
open Go Go.RowKit
set_option maxRecDepth 20000

/-- An operation that only reckons or reads. -/
def isRead (o : Oper) : Bool :=
  match o.op with
  | .move _ | .load _ _ | .binOp _ _ _ _ _ | .indexAddr _ _ _ | .extract _ _ | .assign _ | .fieldAddr _ _ _ | .slice _ _ _ _ _ => true
  | _ => false

theorem read_value {P : Program} {ρ : Operand → Value} {o : Oper} (h : isRead o = true) (w : World) (nx : Next) (w' : World) (hr : (execOp ρ o).run P w = .ok nx w') : ∃ u, nx = .value u := by
  unfold isRead at h
  unfold execOp at hr
  split at h
  · rename_i x e
    simp only [e, Sem.run_pure, Result.ok.injEq] at hr
    exact ⟨_, hr.1.symm⟩
  · rename_i t x e
    simp only [e, Sem.run_bind, Sem.run_pure] at hr
    revert hr
    generalize (Instr.loadAt t (ρ x)).run P w = r
    intro hr
    cases r with
    | ok a w1 => simp only [Result.andThen_ok, Result.ok.injEq] at hr; exact ⟨_, hr.1.symm⟩
    | halt x w1 => simp [Result.andThen] at hr
  · rename_i op t x y z e
    simp only [e, Sem.run_bind, Sem.run_pure] at hr
    revert hr
    generalize ((eqGuard op t x y (ρ x) (ρ y)).run P w).andThen (fun _ w' => (binOp op t (ρ x) (ρ y)).run P w') = r
    intro hr
    cases r with
    | ok a w1 => simp only [Result.andThen_ok, Result.ok.injEq] at hr; exact ⟨_, hr.1.symm⟩
    | halt x w1 => simp [Result.andThen] at hr
  · rename_i t x y e
    simp only [e, Sem.run_bind, Sem.run_pure] at hr
    revert hr
    generalize (Instr.indexAt t (ρ x) (ρ y)).run P w = r
    intro hr
    cases r with
    | ok a w1 => simp only [Result.andThen_ok, Result.ok.injEq] at hr; exact ⟨_, hr.1.symm⟩
    | halt x w1 => simp [Result.andThen] at hr
  · rename_i x i e
    simp only [e, Sem.run_bind, Sem.run_pure] at hr
    revert hr
    generalize (Instr.extract (ρ x) i).run P w = r
    intro hr
    cases r with
    | ok a w1 => simp only [Result.andThen_ok, Result.ok.injEq] at hr; exact ⟨_, hr.1.symm⟩
    | halt x w1 => simp [Result.andThen] at hr
  · rename_i x e
    simp only [e, Sem.run_pure, Result.ok.injEq] at hr
    exact ⟨_, hr.1.symm⟩
  · rename_i t x i e
    simp only [e, Sem.run_bind, Sem.run_pure] at hr
    revert hr
    generalize (Instr.fieldAt t (ρ x) i).run P w = r
    intro hr
    cases r with
    | ok a w1 => simp only [Result.andThen_ok, Result.ok.injEq] at hr; exact ⟨_, hr.1.symm⟩
    | halt x w1 => simp [Result.andThen] at hr
  · rename_i t x lo hi mx e
    simp only [e, Sem.run_bind, Sem.run_pure] at hr
    revert hr
    generalize (Instr.sliceAt t (ρ x) (lo.map ρ) (hi.map ρ) (mx.map ρ)).run P w = r
    intro hr
    cases r with
    | ok a w1 => simp only [Result.andThen_ok, Result.ok.injEq] at hr; exact ⟨_, hr.1.symm⟩
    | halt x w1 => simp [Result.andThen] at hr
  · cases h

theorem yieldsIf_of_in {P : Program} {ops : Array Oper} {S : World → Prop} {o : Oper} {v : Value} {a : Act} (h : isRead o = true) (hy : YieldsIn P ops S o v a) : YieldsIf P ops S o v a := by
  rcases hy with ⟨hw, hv⟩ | hn
  · refine .inl ⟨hw, fun w hS => ?_⟩
    have hq := hv w hS
    unfold Oper.quietAt at hq
    cases hr : (execOp a.eval o).run P w with
    | ok nx w' =>
      obtain ⟨u, rfl⟩ := read_value h w nx w' hr
      rw [hr] at hq
      obtain ⟨rfl, rfl⟩ := hq
      rfl
    | halt x w' => rw [hr] at hq; exact hq.elim
  · exact .inr hn

def headFrom (md : Region.Mode) (ops : Array Oper) : Nat → Nat → Array Bool → Bool
  | 0, _, _ => true
  | f + 1, k, listed => (Region.ready md ops listed).contains k && Region.free md ops listed k && headFrom md ops f (k + 1) (listed.setIfInBounds k true)
def listedFrom : Nat → Nat → Array Bool → Array Bool
  | 0, _, l => l
  | f + 1, k, l => listedFrom f (k + 1) (l.setIfInBounds k true)

theorem reads_held {P : Program} {md : Region.Mode} {ops : Array Oper} {Q : Exit → Act → World → Prop} {S : World → Prop} {g : Nat} (hs : Region.noSelect ops = true) (hQ : ∀ d v c a w, Q (.panic c) (Act.put a d v) w → Q (.panic c) a w) (w : World) (hS : S w) :
    ∀ (l : List Oper) (k : Nat) (listed : Array Bool) (a : Act), (∀ j, j < l.length → l[j]? = ops[k + j]?) → headFrom md ops l.length k listed = true → l.all isRead = true →
      wpQuiet P ops S (fun a' => wpAnyH P md ops Q S g (listedFrom l.length k listed) a' w) l a → wpAnyH P md ops Q S (l.length + g) listed a w
  | [], _, _, _, _, _, _, h => by simpa [wpQuiet, listedFrom] using h
  | o :: l, k, listed, a, hl, hB, hr, h => by
    have h0 : ops[k]? = some o := by simpa using (hl 0 (by simp)).symm
    simp only [List.length_cons, headFrom, Bool.and_eq_true] at hB
    simp only [List.all_cons, Bool.and_eq_true] at hr
    have hst : qOp P ops S k (wpQuiet P ops S (fun a' => wpAnyH P md ops Q S g (listedFrom (o :: l).length k listed) a' w) l) a := by
      unfold qOp; simp only [h0]; exact h
    obtain ⟨v, hy, hK⟩ := yieldsIn_of_qOp h0 hst
    have ih := reads_held hs hQ w hS l (k + 1) (listed.setIfInBounds k true) (a.put o.dst v) (fun j hj => by
      have := hl (j + 1) (by simp; omega)
      simpa [Nat.add_assoc, Nat.add_comm 1 j] using this) hB.2 hr.2 hK
    rw [show (o :: l).length + g = (l.length + g) + 1 by simp; omega]
    exact wpAnyH_take h0 hs hB.1.2 hB.1.1 (fun c a w => hQ o.dst v c a w) (yieldsIf_of_in hr.1 hy) hS ih

/-- A drawn region, from its beginning. -/
theorem region_begin {P : Program} {id : Nat} {Q : Exit → Act → World → Prop} {a : Act} {w : World} {lo : List Oper} (n : Nat) (hn : lo.length = n) (hm : P.follows .mixedOrders = true)
    (h : wpAnyH P .any lo.toArray Q (fun w' => ∃ u : Later w, w' = u.world) n (Array.replicate n false) a w.drew) : (Code.region id lo.toArray true).wp P Q a w := by
  refine wp_region_held (S := fun w' => ∃ u : Later w, w' = u.world) hm ?_
  rw [show lo.toArray.size = n by simpa using hn]
  exact h
/-- The same with a class of worlds of one's own. -/
theorem region_beginS {P : Program} {id : Nat} {Q : Exit → Act → World → Prop} {a : Act} {w : World} {lo : List Oper} (S : World → Prop) (n : Nat) (hn : lo.length = n) (hm : P.follows .mixedOrders = true)
    (h : wpAnyH P .any lo.toArray Q S n (Array.replicate n false) a w.drew) : (Code.region id lo.toArray true).wp P Q a w := by
  refine wp_region_held (S := S) hm ?_
  rw [show lo.toArray.size = n by simpa using hn]
  exact h
/-- n operations, from number k on, that only read, are taken first. -/
theorem region_reads {P : Program} {Q : Exit → Act → World → Prop} {S : World → Prop} {a : Act} {w : World} {lo : List Oper} {listed : Array Bool} (k n g : Nat) (hl : ((lo.drop k).take n).length = n) (hs : Region.noSelect lo.toArray = true)
    (hB : headFrom .any lo.toArray n k listed = true) (hr : ((lo.drop k).take n).all isRead = true) (hQ : ∀ d v c a w, Q (.panic c) (Act.put a d v) w → Q (.panic c) a w) (hS : S w)
    (h : wpQuiet P lo.toArray S (fun a' => wpAnyH P .any lo.toArray Q S g (listedFrom n k listed) a' w) ((lo.drop k).take n) a) : wpAnyH P .any lo.toArray Q S (n + g) listed a w := by
  have := reads_held (P := P) (md := .any) (Q := Q) (g := g) hs hQ w hS ((lo.drop k).take n) k listed a (fun j hj => by
    rw [hl] at hj
    rw [List.getElem?_take_of_lt hj, List.getElem?_drop]
    simp) (by rw [hl]; exact hB) hr (by rw [hl]; exact h)
  rwa [hl] at this
theorem noPanic {F : Act → World → Prop} : ∀ (d : Option Tmp) (v : Value) c (a : Act) (w : World), (fun (e : Exit) a w => e = .normal ∧ F a w) (.panic c) (Act.put a d v) w → (fun (e : Exit) a w => e = .normal ∧ F a w) (.panic c) a w :=
  fun _ _ _ _ _ h => absurd h.1 (by simp)
/-- A cut behind a region. -/
theorem region_cut {P : Program} {c : Code} {Q : Exit → Act → World → Prop} {a : Act} {w : World} (F : Act → Act → World → Prop) (h1 : c.wp P (fun e a' w' => e = .normal ∧ F a a' w') a w) (h2 : ∀ a' w', F a a' w' → Q .normal a' w') : c.wp P Q a w :=
  Code.wp_mono (by rintro e a' w' ⟨rfl, h⟩; exact h2 a' w' h) h1

theorem wpOp_wanted {P : Program} {ops : Array Oper} {Q : Exit → Act → World → Prop} {i : Nat} {o : Oper} {K : Act → World → Prop} {a : Act} {w : World} (hi : ops[i]? = some o) (hw : Region.wanted o (yielded ops a.tmps) = true) (h : o.wp P a w K Q) : wpOp P ops Q i K a w := by
  unfold Go.wpOp
  simp only [hi, hw, if_true]
  exact .inl h
theorem wpOp_call {ops : Array Oper} {Q : Exit → Act → World → Prop} {i : Nat} {o : Oper} {K : Act → World → Prop} {a : Act} {w : World} (hi : ops[i]? = some o) (hw : Region.wanted o (yielded ops a.tmps) = true) (f : FuncId) (xs : Array Operand)
    (hf : ∀ (b : Act) (w : World), (execOp b.eval o).run Try.prog w = .ok (.enter f (xs.map b.eval)) w) (vs : Array Value) (hvs : xs.toList.map a.eval = vs.toList)
    (D : Value → World → Prop) (h : Calls Try.prog f vs w fun e w' => ∃ v, e = .returned v ∧ D v w') (d : Option Tmp) (hd : o.dst = d) (hK : ∀ v w', D v w' → K (a.put d v) w') : wpOp Try.prog ops Q i K a w := by
  subst hd
  refine wpOp_wanted hi hw ?_
  unfold Oper.wp
  rw [hf a w, show xs.map a.eval = vs from Array.ext' (by rw [Array.toList_map]; exact hvs)]
  refine h.mono ?_
  rintro e w' ⟨v, rfl, hc⟩
  exact hK v w' hc
theorem wpOp_allocC {ops : Array Oper} {Q : Exit → Act → World → Prop} {i : Nat} {o : Oper} {K : Act → World → Prop} {a : Act} {w : World} (hi : ops[i]? = some o) (hw : Region.wanted o (yielded ops a.tmps) = true) (ho : o.op = .alloc 26) (d : Option Tmp) (hd : o.dst = d)
    (hK : K (a.put d (.pointer (some ⟨w.heap.size, 0, none⟩))) (w.alloc (.cells zeroC 26))) : wpOp Try.prog ops Q i K a w := by
  subst hd
  refine wpOp_wanted hi hw ?_
  obtain ⟨dst, op, ty, pos, after, guard⟩ := o
  subst ho
  unfold Oper.wp
  have : ∀ (b : Act), (execOp b.eval ⟨dst, .alloc 26, ty, pos, after, guard⟩).run Try.prog w = .ok (.value (.pointer (some ⟨w.heap.size, 0, none⟩))) (w.alloc (.cells zeroC 26)) := fun b => by simp [go_sem]
  rw [this a]
  exact hK
theorem wpOp_alloc26 {ops : Array Oper} {Q : Exit → Act → World → Prop} {i : Nat} {o : Oper} {K : Act → World → Prop} {a : Act} {w : World} (hi : ops[i]? = some o) (hw : Region.wanted o (yielded ops a.tmps) = true) (ho : o.op = .alloc 24) (d : Option Tmp) (hd : o.dst = d)
    (hK : K (a.put d (.pointer (some ⟨w.heap.size, 0, none⟩))) (w.alloc (.cells zero26 24))) : wpOp Try.prog ops Q i K a w := by
  subst hd
  refine wpOp_wanted hi hw ?_
  obtain ⟨dst, op, ty, pos, after, guard⟩ := o
  subst ho
  unfold Oper.wp
  have : ∀ (b : Act), (execOp b.eval ⟨dst, .alloc 24, ty, pos, after, guard⟩).run Try.prog w = .ok (.value (.pointer (some ⟨w.heap.size, 0, none⟩))) (w.alloc (.cells zero26 24)) := fun b => by simp [go_sem]
  rw [this a]
  exact hK
theorem wpOp_store26 {ops : Array Oper} {Q : Exit → Act → World → Prop} {i : Nat} {o : Oper} {K : Act → World → Prop} {a : Act} {w : World} (hi : ops[i]? = some o) (hw : Region.wanted o (yielded ops a.tmps) = true) (x y : Operand) (ho : o.op = .store 24 x y)
    (g : Nat) (L : List Int) (hx : a.eval x = .pointer (some ⟨g, 0, none⟩)) (hy : a.eval y = .agg (hv L)) (old : Array Value) (hg : w.heap[g]? = some (.cells old 24 (0, 0))) (hold : old.size = 13) (hL : L.length = 13) (d : Option Tmp) (hd : o.dst = d)
    (hK : K (a.put d undef) (w.setRow g (hv L))) : wpOp Try.prog ops Q i K a w := by
  subst hd
  exact wpOp_wanted hi hw (wp_store_row 24 x y ho g (hv L) hx hy 24 old hg (size26 L hL) (by rw [hv_size, hold, hL]) (hv_one L) hK)
theorem wpOp_storeC {ops : Array Oper} {Q : Exit → Act → World → Prop} {i : Nat} {o : Oper} {K : Act → World → Prop} {a : Act} {w : World} (hi : ops[i]? = some o) (hw : Region.wanted o (yielded ops a.tmps) = true) (x y : Operand) (ho : o.op = .store 26 x y)
    (g : Nat) (V M : List Int) (hx : a.eval x = .pointer (some ⟨g, 0, none⟩)) (hy : a.eval y = .agg (cv V M)) (old : Array Value) (hg : w.heap[g]? = some (.cells old 26 (0, 0))) (hold : old.size = 26) (hV : V.length = 13) (hM : M.length = 13) (d : Option Tmp) (hd : o.dst = d)
    (hK : K (a.put d undef) (w.setRow g (cv V M))) : wpOp Try.prog ops Q i K a w := by
  subst hd
  exact wpOp_wanted hi hw (wp_store_row 26 x y ho g (cv V M) hx hy 26 old hg (sizeC V M hV hM) (by rw [cv_size V M hV hM, hold]) (cv_one V M) hK)
theorem wpOp_assign {P : Program} {ops : Array Oper} {Q : Exit → Act → World → Prop} {i : Nat} {o : Oper} {K : Act → World → Prop} {a : Act} {w : World} (hi : ops[i]? = some o) (hw : Region.wanted o (yielded ops a.tmps) = true) (x : Operand) (ho : o.op = .assign x) (v : Value) (hx : a.eval x = v) (d : Option Tmp) (hd : o.dst = d)
    (hK : K (a.put d v) w) : wpOp P ops Q i K a w := by
  subst hd hx
  refine wpOp_wanted hi hw ?_
  unfold Oper.wp execOp
  simp only [ho, Sem.run_pure]
  exact hK
end Go.Proofs.Ytbhnjhiecoapbaa
namespace Go.Proofs.Ytbhnjhiecoapbaa
open Go Go.RowKit
set_option maxRecDepth 20000

/-- The first rule that has a header. -/
def hasR (H : List Int) (r : RuleM) : Bool := has r.cube.1 r.cube.2 H
def rule0 : RuleM := ⟨0, (Z, Z), 0⟩
def lookT (l : List RuleM) (H : List Int) : RuleM × Bool := match l.find? (hasR H) with
  | some r => (r, true)
  | none => (rule0, false)
theorem find_take_none {α : Type} {p : α → Bool} {l : List α} {k : Nat} {x : α} (h : (l.take k).find? p = none) (hx : l[k]? = some x) (hp : p x = false) : (l.take (k + 1)).find? p = none := by
  rw [List.take_add_one, hx, List.find?_append, h]
  simp [hp]
theorem find_of_take {α : Type} {p : α → Bool} {l : List α} {k : Nat} {x : α} (h : (l.take k).find? p = none) (hx : l[k]? = some x) (hp : p x = true) : l.find? p = some x := by
  obtain ⟨hk, rfl⟩ := List.getElem?_eq_some_iff.1 hx
  conv => lhs; rw [← List.take_append_drop k l]
  rw [List.find?_append, h, List.drop_eq_getElem_cons hk, List.find?_cons, hp]
  rfl
theorem rule0_ok : okR8 rule0 := ⟨Z_byt, Z_byt⟩
/-- The end of a function that answers a rule in memory and a truth value. -/
theorem retRb {fn : Func} {R : Ending → World → Prop} {a : Act} {w : World} {p u : Tmp} (hr : fn.results = #[.cell p 30, .tmp u]) (hd : a.defers = []) (g : Nat) (hp : a.tmps.getD p undef = .pointer (some ⟨g, 0, none⟩)) (r : RuleM) (hk : okR8 r)
    (hg : w.heap[g]? = some (.cells (ruleV r) 30 (0, 0))) (v : Value) (hv : a.tmps.getD u undef = v) (h : R (.returned (.tuple #[.agg (ruleV r), v])) w) : bodyPost Try.prog fn R .ret a w := by
  refine bodyPost_ret (v := .tuple #[.agg (ruleV r), v]) ?_ hd h
  have hl := RuleOk.load w g 0 _ _ _ (ruleV r) (ruleV_size hk) hg (own_cells _ _)
  unfold RuleE at hl
  simp only at hl
  have hp' : a.tmps[p]?.getD undef = .pointer (some ⟨g, 0, none⟩) := by simpa using hp
  have hv' : a.tmps[u]?.getD undef = v := by simpa using hv
  simp [results, hr, hp', hv', hl, asAddr]

def RulesAt (w : World) (v : Value) (l : List RuleM) : Prop := GSl RuleE ruleV w v l
set_option maxHeartbeats 8000000 in
set_option maxRecDepth 100000 in
theorem look_any (l : List RuleM) (hl0 : ∀ r ∈ l, okR8 r) (vl : Value) (H : List Int) (hH : Byt H) (w : World) (hl : RulesAt w vl l) :
    Calls Try.prog 11 #[vl, .agg (hv H)] w fun e w' => e = .returned (.tuple #[.agg (ruleV (lookT l H).1), .bool (lookT l H).2]) ∧ Below w.heap.size w w' := by
  have hHl := hH.1
  have HA : Hid (∀ (V M : List Int) W, Byt V → Byt M → Calls Try.prog 14 #[.agg (cv V M), .agg (hv H)] W fun e w' => e = .returned (.bool (has V M H)) ∧ Below W.heap.size W w') := fun V M W h1 h2 => has_any V M H h1 h2 hH W
  obtain ⟨o, cap, rfl, hc1, hc2⟩ := GSl.slice hl
  obtain ⟨n, hn0⟩ : ∃ n, n = l.length := ⟨_, rfl⟩
  have HN : Hid (n = l.length) := hn0
  rw [← hn0] at hl hc1 ⊢
  have HL : Hid (RulesAt w (.slice o n cap) l) := hl
  have HOK : Hid (∀ r ∈ l, okR8 r) := hl0
  unfold maxLen at hc2
  have K0 : Hid (((w.alloc (.cells (hv H) 24)).alloc (.cells RuleE.zero 30)).heap[w.heap.size]? = some (.cells (hv H) 24 (0, 0)) ∧ ((w.alloc (.cells (hv H) 24)).alloc (.cells RuleE.zero 30)).heap[w.heap.size + 1]? = some (.cells RuleE.zero 30 (0, 0))) := ⟨heap_past _ _ _ _ (heap_new _ _ _ rfl), heap_new _ _ _ (by simp)⟩
  have B0 : Hid (Below w.heap.size w ((w.alloc (.cells (hv H) 24)).alloc (.cells RuleE.zero 30))) := ((Below.refl _ _).alloc (Nat.le_refl _) _).alloc (by simp) _
  obtain ⟨S, hS⟩ : ∃ S, S = lookT l H := ⟨_, rfl⟩
  have HS : Hid (S = lookT l H) := hS
  rw [← hS]
  clear hl hn0 hl0 hS
  go_enter Try.func11, Try.ntmps11
  go_wp2_with fail
  go_loopw [10] (fun i wr => ∃ k : Nat, k ≤ n ∧ i = .int .i64 (k : Int) ∧ Hid ((l.take k).find? (hasR H) = none) ∧ wr.heap[w.heap.size]? = some (.cells (hv H) 24 (0, 0)) ∧ wr.heap[w.heap.size + 1]? = some (.cells RuleE.zero 30 (0, 0)) ∧ Below w.heap.size w wr) (fun i _ => n - (intOf i).toNat)
  case atStart => exact ⟨0, Nat.zero_le _, rfl, rfl, K0.out.1, K0.out.2, B0.out⟩
  case round =>
    clear K0 B0
    obtain ⟨k, hk, rfl, HF, h1, h2, hb⟩ := hrel
    have R1 : Hid (wr.heap[w.heap.size]? = some (.cells (hv H) 24 (0, 0))) := h1
    have R2 : Hid (wr.heap[w.heap.size + 1]? = some (.cells RuleE.zero 30 (0, 0))) := h2
    have HB : Hid (Below w.heap.size w wr) := hb
    clear h1 h2 hb
    by_cases hlt : k < n
    · have hlt' : (k : Int) < (n : Int) := by omega
      obtain ⟨g, off, cur, ty, fr, r, rfl, hg, hc, hxk⟩ := (GSl.below HL.out HB.out).at k hlt
      have hr : okR8 r := HOK.out r (List.mem_of_getElem? hxk)
      have HR : Hid (okR8 r) := hr
      have hsz := ruleV_size hr
      have K1 : Hid (wr.heap[g]? = some (.cells cur ty fr)) := hg
      have H1 : Hid (∀ j, j < 28 → cur[off + k * 28 + j]? = (ruleV r)[j]?) := hc
      have KN : Hid ((wr.alloc (.cells (ruleV r) 30)).heap[wr.heap.size]? = some (.cells (ruleV r) 30 (0, 0))) := heap_new _ _ _ rfl
      have RN1 : Hid ((wr.alloc (.cells (ruleV r) 30)).heap[w.heap.size]? = some (.cells (hv H) 24 (0, 0))) := heap_past _ _ _ _ R1.out
      have RN2 : Hid ((wr.alloc (.cells (ruleV r) 30)).heap[w.heap.size + 1]? = some (.cells RuleE.zero 30 (0, 0))) := heap_past _ _ _ _ R2.out
      have BN : Hid (Below w.heap.size w (wr.alloc (.cells (ruleV r) 30))) := HB.out.alloc HB.out.size _
      have HX : Hid (l[k]? = some r) := hxk
      clear hg hc hxk hr
      go_wp2_with (first
        | (refine wl_loadE (E := RuleE) RuleOk rfl _ rfl g (off + k * 28) rfl cur ty fr (ruleV r) hsz K1.out H1.out ?_)
        | (refine wl_storeE (E := RuleE) RuleOk rfl _ _ rfl wr.heap.size (ruleV r) (rule_fits HR.out) rfl rfl _ (heap_new _ _ _ rfl) rfl _ (setRow_new _ _ _ _ _ rfl) ?_)
        | (refine wl_loadCw rfl _ rfl wr.heap.size 1 rfl _ _ _ r.cube.1 r.cube.2 HR.out.1.1 HR.out.2.1 KN.out (rule_at HR.out).2.1 ?_)
        | (refine wl_load26 rfl _ rfl w.heap.size rfl H RN1.out hHl ?_))
      refine (HA.out r.cube.1 r.cube.2 _ HR.out.1 HR.out.2).mono ?_
      rintro e w1 ⟨rfl, hb1⟩
      have B1 : Hid (Below w.heap.size w w1) := BN.out.trans (hb1.mono BN.out.size)
      have KR : Hid (w1.heap[wr.heap.size]? = some (.cells (ruleV r) 30 (0, 0))) := (hb1.block _ (by simp)).trans KN.out
      have R3 : Hid (w1.heap[w.heap.size]? = some (.cells (hv H) 24 (0, 0))) := (hb1.block _ (Array.getElem?_eq_some_iff.1 RN1.out).1).trans RN1.out
      have R4 : Hid (w1.heap[w.heap.size + 1]? = some (.cells RuleE.zero 30 (0, 0))) := (hb1.block _ (Array.getElem?_eq_some_iff.1 RN2.out).1).trans RN2.out
      clear hb1
      cases hhas : has r.cube.1 r.cube.2 H with
      | true =>
        have HE : Hid (S = (r, true)) := by
          show _ = _
          rw [HS.out]
          unfold lookT
          rw [find_of_take HF.out HX.out hhas]
        clear hhas
        go_wp2_with (first
          | (refine wl_loadE (E := RuleE) RuleOk rfl _ rfl wr.heap.size 0 rfl _ _ _ (ruleV r) hsz KR.out (own_cells _ _) ?_)
          | (refine wl_storeE (E := RuleE) RuleOk rfl _ _ rfl (w.heap.size + 1) (ruleV r) (rule_fits HR.out) rfl rfl _ R4.out rfl _ rfl ?_))
        refine retRb rfl rfl (w.heap.size + 1) rfl r HR.out (setRow_heap _ _ _ _ _ _ R4.out) _ rfl ?_
        rw [HE.out]
        exact ⟨rfl, below_setRow B1.out (by omega) _⟩
      | false =>
        have HF2 : Hid ((l.take (k + 1)).find? (hasR H) = none) := find_take_none HF.out HX.out hhas
        clear hhas
        go_wp2_with fail
        go_roundw
        case rel => exact ⟨k + 1, by omega, by go_num, HF2, R3.out, R4.out, B1.out⟩
        case measure => simp [intOf]; omega
    · have hlt' : ¬ (k : Int) < (n : Int) := by omega
      have HE : Hid (S = (rule0, false)) := by
        have e := HN.out
        have hF := HF.out
        rw [List.take_of_length_le (by omega)] at hF
        show _ = _
        rw [HS.out]
        unfold lookT
        rw [hF]
      have HZ : Hid (RuleE.zero = ruleV rule0) := zero_rule
      go_wp2_with (first
        | (refine wl_storeE (E := RuleE) RuleOk rfl _ _ rfl (w.heap.size + 1) (ruleV rule0) (rule_fits rule0_ok) rfl (by rw [← HZ.out]; rfl) _ R2.out rfl _ rfl ?_))
      refine retRb rfl rfl (w.heap.size + 1) rfl rule0 rule0_ok (setRow_heap _ _ _ _ _ _ R2.out) _ rfl ?_
      rw [HE.out]
      exact ⟨rfl, below_setRow HB.out (by omega) _⟩
end Go.Proofs.Ytbhnjhiecoapbaa
namespace Go.Proofs.Ytbhnjhiecoapbaa
open Ieee

/-- Half and even: when so much, or more, comes of it. -/
theorem cut_ge (neg : Bool) (n d k : Nat) : k + 1 ≤ Toward.even.cut neg n d ↔ (2 * k + 1) * 2 ^ d < 2 * n ∨ ((2 * k + 1) * 2 ^ d = 2 * n ∧ k % 2 = 1) := by
  unfold Toward.cut
  simp only [Nat.one_shiftLeft]
  by_cases hd : d ≤ n.log2 + 2
  · rw [Nat.min_eq_left hd]
    obtain ⟨g, hg⟩ : ∃ g, g = 2 ^ d := ⟨_, rfl⟩
    have hg0 : 0 < g := by rw [hg]; exact Nat.pow_pos (by decide)
    rw [← hg]
    obtain ⟨low, hlow⟩ : ∃ low, low = n / g := ⟨_, rfl⟩
    obtain ⟨rest, hrest⟩ : ∃ rest, rest = n % g := ⟨_, rfl⟩
    have hn : n = g * low + rest := by rw [hlow, hrest]; exact (Nat.div_add_mod n g).symm
    have hr : rest < g := by rw [hrest]; exact Nat.mod_lt _ hg0
    rw [← hlow, ← hrest]
    clear hlow hrest
    subst hn
    rcases Nat.lt_trichotomy k low with h | h | h
    · obtain ⟨t, rfl⟩ : ∃ t, low = k + 1 + t := ⟨low - (k + 1), by omega⟩
      refine ⟨fun _ => .inl ?_, fun _ => by omega⟩
      have e1 : g * (k + 1 + t) = g * k + g + g * t := by rw [Nat.mul_add, Nat.mul_add, Nat.mul_one]
      have e2 : (2 * k + 1) * g = 2 * (g * k) + g := by rw [Nat.add_mul, Nat.one_mul, Nat.mul_assoc, Nat.mul_comm k g]
      omega
    · subst h
      have e2 : (2 * k + 1) * g = 2 * (g * k) + g := by rw [Nat.add_mul, Nat.one_mul, Nat.mul_assoc, Nat.mul_comm k g]
      rw [e2]
      by_cases h1 : g < 2 * rest
      · have hb : (decide (g < 2 * rest) || (g == 2 * rest && k % 2 == 1)) = true := by simp [h1]
        rw [hb]
        exact ⟨fun _ => .inl (by omega), fun _ => by simp⟩
      · by_cases h2 : g = 2 * rest
        · by_cases h3 : k % 2 = 1
          · have hb : (decide (g < 2 * rest) || (g == 2 * rest && k % 2 == 1)) = true := by simp [h2, h3]
            rw [hb]
            exact ⟨fun _ => .inr ⟨by omega, h3⟩, fun _ => by simp⟩
          · have hb : (decide (g < 2 * rest) || (g == 2 * rest && k % 2 == 1)) = false := by simp [h2, h3]
            rw [hb]
            refine ⟨fun h => by exfalso; have : (false : Bool).toNat = 0 := rfl; omega, fun h => ?_⟩
            rcases h with h | h
            · omega
            · exact absurd h.2 h3
        · have hb : (decide (g < 2 * rest) || (g == 2 * rest && k % 2 == 1)) = false := by simp [h1, h2]
          rw [hb]
          refine ⟨fun h => by exfalso; have : (false : Bool).toNat = 0 := rfl; omega, fun h => ?_⟩
          rcases h with h | h <;> omega
    · obtain ⟨t, rfl⟩ : ∃ t, k = low + 1 + t := ⟨k - (low + 1), by omega⟩
      have e2 : (2 * (low + 1 + t) + 1) * g = 2 * (g * low) + 3 * g + 2 * (g * t) := by
        rw [show 2 * (low + 1 + t) + 1 = 2 * low + 3 + 2 * t by omega, Nat.add_mul, Nat.add_mul, Nat.mul_assoc, Nat.mul_assoc, Nat.mul_comm low g, Nat.mul_comm t g]
      rw [e2]
      refine ⟨fun h => ?_, fun h => ?_⟩
      · exfalso
        have : (decide (g < 2 * rest) || (g == 2 * rest && low % 2 == 1)).toNat ≤ 1 := Bool.toNat_le _
        omega
      · exfalso
        rcases h with h | h <;> omega
  · rw [Nat.min_eq_right (by omega)]
    have h1 : n < 2 ^ (n.log2 + 1) := Nat.lt_log2_self
    have h2 : 2 * n < 2 ^ (n.log2 + 2) := by rw [Nat.pow_succ]; omega
    have h3 : 2 ^ (n.log2 + 2) ≤ 2 ^ d := Nat.pow_le_pow_right (by decide) (by omega)
    obtain ⟨g, hg⟩ : ∃ g, g = 2 ^ (n.log2 + 2) := ⟨_, rfl⟩
    rw [← hg] at h2 h3 ⊢
    have hb : (decide (g < 2 * (n % g)) || (g == 2 * (n % g) && n / g % 2 == 1)) = false := by
      rw [Nat.mod_eq_of_lt (by omega)]
      simp
      omega
    rw [hb, Nat.div_eq_of_lt (by omega)]
    have h4 : 2 ^ d ≤ (2 * k + 1) * 2 ^ d := Nat.le_mul_of_pos_left _ (by omega)
    refine ⟨fun h => by exfalso; have : (false : Bool).toNat = 0 := rfl; omega, fun h => ?_⟩
    rcases h with h | h <;> omega

section
variable (f : Format)
/-- A rung's number, in units of the format's least place. -/
def fval (r : Nat) : Nat := if r < f.binade then r else (f.binade + r % f.binade) * 2 ^ (r / f.binade - 1)
theorem binade_pos : 0 < f.binade := Nat.pow_pos (by decide)
theorem fval_form (e k : Nat) (h : (e = 0 ∧ k ≤ 2 * f.binade) ∨ (f.binade ≤ k ∧ k ≤ 2 * f.binade)) : fval f (e * f.binade + k) = k * 2 ^ e := by
  have hp := binade_pos f
  unfold fval
  obtain ⟨B, hB⟩ : ∃ B, B = f.binade := ⟨_, rfl⟩
  rw [← hB] at hp h ⊢
  by_cases hk : k < B
  · have he : e = 0 := by rcases h with h | h <;> omega
    subst he
    rw [if_pos (by omega)]
    simp
  · rw [if_neg (by omega)]
    by_cases h2 : k = 2 * B
    · subst h2
      have e1 : e * B + 2 * B = B * (e + 2) := by rw [Nat.mul_add, Nat.mul_comm e B, Nat.mul_comm 2 B]
      rw [e1, Nat.mul_mod_right, Nat.mul_div_cancel_left _ hp, show e + 2 - 1 = e + 1 by omega, Nat.pow_succ, Nat.add_zero, Nat.mul_comm (2 ^ e) 2, ← Nat.mul_assoc, Nat.mul_comm B 2]
    · obtain ⟨j, rfl⟩ : ∃ j, k = B + j := ⟨k - B, by omega⟩
      have hj : j < B := by rcases h with h | h <;> omega
      have e1 : e * B + (B + j) = B * (e + 1) + j := by rw [Nat.mul_add, Nat.mul_one, Nat.mul_comm e B, Nat.add_assoc]
      rw [e1, Nat.mul_add_mod, Nat.mod_eq_of_lt hj, Nat.mul_add_div hp, Nat.div_eq_of_lt hj, Nat.add_zero, Nat.add_sub_cancel]
/-- Each rung is one of a binade. -/
theorem rung_form (r : Nat) : ∃ e k, r = e * f.binade + k ∧ k < 2 * f.binade ∧ (e = 0 ∨ f.binade ≤ k) := by
  have hp := binade_pos f
  by_cases h : r < f.binade
  · exact ⟨0, r, by simp, by omega, .inl rfl⟩
  · refine ⟨r / f.binade - 1, f.binade + r % f.binade, ?_, ?_, .inr (by omega)⟩
    · have h1 : 1 ≤ r / f.binade := (Nat.le_div_iff_mul_le hp).2 (by omega)
      have h2 := Nat.div_add_mod r f.binade
      obtain ⟨q, hq⟩ : ∃ q, r / f.binade = q + 1 := ⟨r / f.binade - 1, by omega⟩
      rw [hq] at h2 ⊢
      rw [Nat.add_sub_cancel, Nat.mul_comm q]
      rw [Nat.mul_add, Nat.mul_one] at h2
      omega
    · have := Nat.mod_lt r hp
      omega
theorem fval_succ (r : Nat) : fval f r < fval f (r + 1) := by
  obtain ⟨e, k, rfl, h1, h2⟩ := rung_form f r
  rw [Nat.add_assoc, fval_form f e k (by rcases h2 with h2 | h2 <;> omega), fval_form f e (k + 1) (by rcases h2 with h2 | h2 <;> omega)]
  exact Nat.mul_lt_mul_of_pos_right (by omega) (Nat.pow_pos (by decide))
theorem fval_lt {r r' : Nat} (h : r < r') : fval f r < fval f r' := by
  obtain ⟨t, rfl⟩ : ∃ t, r' = r + 1 + t := ⟨r' - (r + 1), by omega⟩
  clear h
  induction t with
  | zero => exact fval_succ f r
  | succ t ih => exact Nat.lt_trans ih (fval_succ f _)
theorem fval_le {r r' : Nat} (h : r ≤ r') : fval f r ≤ fval f r' := by
  rcases Nat.lt_or_eq_of_le h with h | h
  · exact Nat.le_of_lt (fval_lt f h)
  · rw [h]; exact Nat.le_refl _
theorem fval_zero : fval f 0 = 0 := by unfold fval; rw [if_pos (binade_pos f)]
end
end Go.Proofs.Ytbhnjhiecoapbaa
namespace Go.Proofs.Ytbhnjhiecoapbaa
open Ieee

theorem pow_cancel {a b c : Nat} : a * 2 ^ c < b * 2 ^ c ↔ a < b := Nat.mul_lt_mul_right (Nat.pow_pos (by decide))
theorem pow_cancel_eq {a b c : Nat} : a * 2 ^ c = b * 2 ^ c ↔ a = b := ⟨fun h => Nat.eq_of_mul_eq_mul_right (Nat.pow_pos (by decide)) h, fun h => by rw [h]⟩
theorem pow_cancel_le {a b c : Nat} : a * 2 ^ c ≤ b * 2 ^ c ↔ a ≤ b := ⟨fun h => Nat.le_of_mul_le_mul_right h (Nat.pow_pos (by decide)), fun h => Nat.mul_le_mul_right _ h⟩

section
variable (f : Format)
theorem near_zero (neg : Bool) (place : Int) : f.nearest neg 0 place = f.word neg 0 := by unfold Format.nearest; rw [if_pos rfl]
/-- When the nearest word stands above a rung: the number is above the midst between the rung and the next one, or in the midst, and the next one is the even one. -/
theorem near_ge (hF : 1 ≤ f.fractionBits) (mag : Nat) (place : Int) (r : Nat) (hr : r < f.infRung) :
    r + 1 ≤ f.nearest false mag place ↔
      (fval f r + fval f (r + 1)) * 2 ^ (f.leastPlace - place).toNat < 2 * (mag * 2 ^ (place - f.leastPlace).toNat) ∨
      ((fval f r + fval f (r + 1)) * 2 ^ (f.leastPlace - place).toNat = 2 * (mag * 2 ^ (place - f.leastPlace).toNat) ∧ r % 2 = 1) := by
  by_cases hm : mag = 0
  · subst hm
    rw [near_zero]
    have h1 := fval_succ f r
    have h2 : 0 < (fval f r + fval f (r + 1)) * 2 ^ (f.leastPlace - place).toNat := Nat.mul_pos (by omega) (Nat.pow_pos (by decide))
    show r + 1 ≤ 0 ↔ _
    rw [Nat.zero_mul]
    constructor
    · intro h; omega
    · rintro (h | ⟨h, _⟩) <;> omega
  unfold Format.nearest
  rw [if_neg hm]
  simp only [Format.word, Bool.false_eq_true, if_false, Nat.shiftLeft_eq]
  obtain ⟨LP, hLP⟩ : ∃ LP, LP = f.leastPlace := ⟨_, rfl⟩
  obtain ⟨F, hF'⟩ : ∃ F, F = f.fractionBits := ⟨_, rfl⟩
  have hB : f.binade = 2 ^ F := by rw [hF']; rfl
  rw [← hLP, ← hF']
  rw [← hF'] at hF
  obtain ⟨last, hlast⟩ : ∃ last, last = max (place + (mag.log2 : Int) - (F : Int)) LP := ⟨_, rfl⟩
  rw [← hlast]
  obtain ⟨e, he⟩ : ∃ e, e = (last - LP).toNat := ⟨_, rfl⟩
  obtain ⟨p1, hp1⟩ : ∃ p1, p1 = (place - last).toNat := ⟨_, rfl⟩
  obtain ⟨d, hd⟩ : ∃ d, d = (last - place).toNat := ⟨_, rfl⟩
  obtain ⟨al, hal⟩ : ∃ al, al = (place - LP).toNat := ⟨_, rfl⟩
  obtain ⟨s, hs⟩ : ∃ s, s = (LP - place).toNat := ⟨_, rfl⟩
  rw [← he, ← hp1, ← hd, ← hal, ← hs]
  have hsum : p1 + s + e = al + d := by omega
  have hbits : mag.log2 + p1 ≤ F + d := by omega
  have hbits2 : 1 ≤ e → mag.log2 + p1 = F + d := by omega
  obtain ⟨kept, hkept⟩ : ∃ kept, kept = Toward.even.cut false (mag * 2 ^ p1) d := ⟨_, rfl⟩
  have hcut : ∀ k, k + 1 ≤ kept ↔ (2 * k + 1) * 2 ^ d < 2 * (mag * 2 ^ p1) ∨ ((2 * k + 1) * 2 ^ d = 2 * (mag * 2 ^ p1) ∧ k % 2 = 1) := fun k => by rw [hkept]; exact cut_ge false _ d k
  rw [← hkept]
  clear hlast he hp1 hd hal hs hkept hLP hF'
  have hBp : 0 < f.binade := binade_pos f
  have hBe : f.binade % 2 = 0 := by
    obtain ⟨F', rfl⟩ : ∃ F', F = F' + 1 := ⟨F - 1, by omega⟩
    rw [hB, Nat.pow_succ]; omega
  have H1 : mag * 2 ^ p1 < 2 * f.binade * 2 ^ d := by
    have h1 : mag < 2 ^ (mag.log2 + 1) := Nat.lt_log2_self
    calc mag * 2 ^ p1 < 2 ^ (mag.log2 + 1) * 2 ^ p1 := pow_cancel.2 h1
      _ = 2 ^ (mag.log2 + p1 + 1) := by rw [← Nat.pow_add]; congr 1; omega
      _ ≤ 2 ^ (F + d + 1) := Nat.pow_le_pow_right (by decide) (by omega)
      _ = 2 * f.binade * 2 ^ d := by rw [hB, show F + d + 1 = 1 + F + d by omega, Nat.pow_add, Nat.pow_add]
  have H2 : 1 ≤ e → f.binade * 2 ^ d ≤ mag * 2 ^ p1 := fun h => by
    have h1 : 2 ^ mag.log2 ≤ mag := Nat.log2_self_le hm
    calc f.binade * 2 ^ d = 2 ^ (mag.log2 + p1) := by rw [hB, ← Nat.pow_add, hbits2 h]
      _ = 2 ^ mag.log2 * 2 ^ p1 := Nat.pow_add _ _ _
      _ ≤ mag * 2 ^ p1 := Nat.mul_le_mul_right _ h1
  obtain ⟨N, hN⟩ : ∃ N, N = mag * 2 ^ p1 := ⟨_, rfl⟩
  -- the same in units of the least place
  have hscale : ∀ c : Nat, (c * 2 ^ d < 2 * N ↔ c * 2 ^ e * 2 ^ s < 2 * (mag * 2 ^ al)) ∧ (c * 2 ^ d = 2 * N ↔ c * 2 ^ e * 2 ^ s = 2 * (mag * 2 ^ al)) := fun c => by
    have e1 : c * 2 ^ d * 2 ^ (e + s) = c * 2 ^ e * 2 ^ s * 2 ^ d := by
      rw [Nat.pow_add, Nat.mul_assoc, Nat.mul_assoc c, Nat.mul_assoc c]
      congr 1
      rw [Nat.mul_comm]
    have e2 : 2 * N * 2 ^ (e + s) = 2 * (mag * 2 ^ al) * 2 ^ d := by
      rw [hN, Nat.mul_assoc 2, Nat.mul_assoc 2, Nat.mul_assoc mag, Nat.mul_assoc mag, ← Nat.pow_add, ← Nat.pow_add, show p1 + (e + s) = al + d by omega]
    exact ⟨by rw [← pow_cancel (c := e + s), e1, e2, pow_cancel], by rw [← pow_cancel_eq (c := e + s), e1, e2, pow_cancel_eq]⟩
  rw [← hN] at hcut H1 H2
  have hkle : kept ≤ 2 * f.binade := by
    rcases Nat.lt_or_ge (2 * f.binade) kept with h | h
    · exfalso
      have h0 : 0 < 2 ^ d := Nat.pow_pos (by decide)
      obtain ⟨D, hDD⟩ : ∃ D, D = 2 ^ d := ⟨_, rfl⟩
      rw [← hDD] at h0 H1 hcut
      rcases (hcut (2 * f.binade)).1 h with h1 | ⟨h1, _⟩
      · have : (2 * (2 * f.binade) + 1) * D = 2 * (2 * f.binade * D) + D := by rw [Nat.add_mul, Nat.one_mul, Nat.mul_assoc 2 (2 * f.binade)]
        omega
      · have : (2 * (2 * f.binade) + 1) * D = 2 * (2 * f.binade * D) + D := by rw [Nat.add_mul, Nat.one_mul, Nat.mul_assoc 2 (2 * f.binade)]
        omega
    · exact h
  have hkge : 1 ≤ e → f.binade ≤ kept := fun h => by
    have h2 := H2 h
    have : f.binade - 1 + 1 ≤ kept := (hcut (f.binade - 1)).2 (.inl (by
      have h3 : (2 * (f.binade - 1) + 1) * 2 ^ d + 2 ^ d = 2 * (f.binade * 2 ^ d) := by
        rw [← Nat.succ_mul, Nat.succ_eq_add_one, show 2 * (f.binade - 1) + 1 + 1 = 2 * f.binade by omega, Nat.mul_assoc]
      have h4 : 0 < 2 ^ d := Nat.pow_pos (by decide)
      omega))
    omega
  have hmin : r + 1 ≤ min (e * f.binade + kept) f.infRung ↔ r + 1 ≤ e * f.binade + kept := by omega
  rw [hmin]
  -- where the rung lies
  by_cases hlow : 1 ≤ e ∧ r < e * f.binade + f.binade
  · have h1 := hkge hlow.1
    refine ⟨fun _ => .inl ?_, fun _ => by omega⟩
    have hv : fval f (r + 1) ≤ f.binade * 2 ^ e := by
      rw [← fval_form f e f.binade (by omega)]
      exact fval_le f (by omega)
    have hv2 := fval_succ f r
    have h2 : f.binade * 2 ^ e * 2 ^ s ≤ mag * 2 ^ al := by
      have := H2 hlow.1
      have h5 : ¬ (2 * N < (2 * f.binade) * 2 ^ d) := by rw [Nat.mul_assoc]; omega
      have h6 : (2 * f.binade) * 2 ^ d < 2 * N ∨ (2 * f.binade) * 2 ^ d = 2 * N := by omega
      have h7 : 2 * f.binade * 2 ^ e * 2 ^ s = 2 * (f.binade * 2 ^ e * 2 ^ s) := by rw [Nat.mul_assoc 2, Nat.mul_assoc 2]
      rcases h6 with h6 | h6
      · have := (hscale (2 * f.binade)).1.1 h6; omega
      · have := (hscale (2 * f.binade)).2.1 h6; omega
    calc (fval f r + fval f (r + 1)) * 2 ^ s < (2 * (f.binade * 2 ^ e)) * 2 ^ s := pow_cancel.2 (by omega)
      _ = 2 * (f.binade * 2 ^ e * 2 ^ s) := Nat.mul_assoc _ _ _
      _ ≤ 2 * (mag * 2 ^ al) := by omega
  · by_cases hhigh : e * f.binade + 2 * f.binade ≤ r
    · refine ⟨fun h => by omega, fun h => ?_⟩
      exfalso
      have hv : 2 * f.binade * 2 ^ e ≤ fval f r := by
        rw [← fval_form f e (2 * f.binade) (by omega)]
        exact fval_le f hhigh
      have hv2 := fval_succ f r
      have h2 : mag * 2 ^ al < 2 * f.binade * 2 ^ e * 2 ^ s := by
        have h5 : ¬ ((2 * (2 * f.binade)) * 2 ^ d < 2 * N) := by rw [Nat.mul_assoc]; omega
        have h6 : ¬ ((2 * (2 * f.binade)) * 2 ^ d = 2 * N) := by rw [Nat.mul_assoc]; omega
        rw [(hscale _).1] at h5
        rw [(hscale _).2] at h6
        have h7 : 2 * (2 * f.binade) * 2 ^ e * 2 ^ s = 2 * (2 * f.binade * 2 ^ e * 2 ^ s) := by rw [Nat.mul_assoc 2, Nat.mul_assoc 2]
        omega
      have h8 : 2 * (2 * f.binade * 2 ^ e * 2 ^ s) < (fval f r + fval f (r + 1)) * 2 ^ s := by
        rw [← Nat.mul_assoc]
        exact pow_cancel.2 (by omega)
      rcases h with h | ⟨h, _⟩ <;> omega
    · obtain ⟨k, rfl⟩ : ∃ k, r = e * f.binade + k := ⟨r - e * f.binade, by
        rcases Nat.eq_zero_or_pos e with h | h
        · subst h; omega
        · have : e * f.binade + f.binade ≤ r := by
            rcases Nat.lt_or_ge r (e * f.binade + f.binade) with h' | h'
            · exact absurd ⟨h, h'⟩ hlow
            · exact h'
          omega⟩
      have hk2 : k < 2 * f.binade := by omega
      have hk1 : e = 0 ∨ f.binade ≤ k := by
        rcases Nat.eq_zero_or_pos e with h | h
        · exact .inl h
        · right
          rcases Nat.lt_or_ge k f.binade with h' | h'
          · exact absurd ⟨h, by omega⟩ hlow
          · exact h'
      have hpar : (e * f.binade + k) % 2 = k % 2 := by
        rw [Nat.add_mod, Nat.mul_mod, hBe]
        simp
      rw [Nat.add_assoc, fval_form f e k (by omega), fval_form f e (k + 1) (by omega), hpar]
      have e3 : (k * 2 ^ e + (k + 1) * 2 ^ e) = (2 * k + 1) * 2 ^ e := by rw [← Nat.add_mul]; congr 1; omega
      rw [e3, ← (hscale (2 * k + 1)).1, ← (hscale (2 * k + 1)).2, ← hcut k]
      omega
end
end Go.Proofs.Ytbhnjhiecoapbaa
