import Derived.Test.YtdibjhlckjjlfaaJ1
import Derived.Test.YtdibjhlckjjlfaaJ2
import Derived.OrdersHeld
import Derived.Test.YtdibjhlckjjlfaaJ4
import Derived.Test.YtdibjhlckjjlfaaJ3
import Derived.SizedLaws
namespace Go.Proofs.Ytdibjhlckjjlfaa
open Go Go.RowKit
set_option maxRecDepth 20000

/-- An operation that only reckons or reads. -/
def isRead (o : Oper) : Bool :=
  match o.op with
  | .move _ | .load _ _ | .binOp _ _ _ _ _ | .indexAddr _ _ _ | .extract _ _ | .assign _ | .fieldAddr _ _ _ | .slice _ _ _ _ _ => true
  | _ => false

theorem read_value {P : Program} {ρ : Operand → Value} {o : Oper} (h : isRead o = true) (w : World) (nx : Next) (w' : World) (hr : (execOp ρ o).run P w = .ok nx w') : ∃ u, nx = .value u := by
  unfold isRead at h
  unfold execOp at hr
  split at h
  · rename_i x e
    simp only [e, Sem.run_pure, Result.ok.injEq] at hr
    exact ⟨_, hr.1.symm⟩
  · rename_i t x e
    simp only [e, Sem.run_bind, Sem.run_pure] at hr
    revert hr
    generalize (Instr.loadAt t (ρ x)).run P w = r
    intro hr
    cases r with
    | ok a w1 => simp only [Result.andThen_ok, Result.ok.injEq] at hr; exact ⟨_, hr.1.symm⟩
    | halt x w1 => simp [Result.andThen] at hr
  · rename_i op t x y z e
    simp only [e, Sem.run_bind, Sem.run_pure] at hr
    revert hr
    generalize ((eqGuard op t x y (ρ x) (ρ y)).run P w).andThen (fun _ w' => (binOp op t (ρ x) (ρ y)).run P w') = r
    intro hr
    cases r with
    | ok a w1 => simp only [Result.andThen_ok, Result.ok.injEq] at hr; exact ⟨_, hr.1.symm⟩
    | halt x w1 => simp [Result.andThen] at hr
  · rename_i t x y e
    simp only [e, Sem.run_bind, Sem.run_pure] at hr
    revert hr
    generalize (Instr.indexAt t (ρ x) (ρ y)).run P w = r
    intro hr
    cases r with
    | ok a w1 => simp only [Result.andThen_ok, Result.ok.injEq] at hr; exact ⟨_, hr.1.symm⟩
    | halt x w1 => simp [Result.andThen] at hr
  · rename_i x i e
    simp only [e, Sem.run_bind, Sem.run_pure] at hr
    revert hr
    generalize (Instr.extract (ρ x) i).run P w = r
    intro hr
    cases r with
    | ok a w1 => simp only [Result.andThen_ok, Result.ok.injEq] at hr; exact ⟨_, hr.1.symm⟩
    | halt x w1 => simp [Result.andThen] at hr
  · rename_i x e
    simp only [e, Sem.run_pure, Result.ok.injEq] at hr
    exact ⟨_, hr.1.symm⟩
  · rename_i t x i e
    simp only [e, Sem.run_bind, Sem.run_pure] at hr
    revert hr
    generalize (Instr.fieldAt t (ρ x) i).run P w = r
    intro hr
    cases r with
    | ok a w1 => simp only [Result.andThen_ok, Result.ok.injEq] at hr; exact ⟨_, hr.1.symm⟩
    | halt x w1 => simp [Result.andThen] at hr
  · rename_i t x lo hi mx e
    simp only [e, Sem.run_bind, Sem.run_pure] at hr
    revert hr
    generalize (Instr.sliceAt t (ρ x) (lo.map ρ) (hi.map ρ) (mx.map ρ)).run P w = r
    intro hr
    cases r with
    | ok a w1 => simp only [Result.andThen_ok, Result.ok.injEq] at hr; exact ⟨_, hr.1.symm⟩
    | halt x w1 => simp [Result.andThen] at hr
  · cases h

theorem yieldsIf_of_in {P : Program} {ops : Array Oper} {S : World → Prop} {o : Oper} {v : Value} {a : Act} (h : isRead o = true) (hy : YieldsIn P ops S o v a) : YieldsIf P ops S o v a := by
  rcases hy with ⟨hw, hv⟩ | hn
  · refine .inl ⟨hw, fun w hS => ?_⟩
    have hq := hv w hS
    unfold Oper.quietAt at hq
    cases hr : (execOp a.eval o).run P w with
    | ok nx w' =>
      obtain ⟨u, rfl⟩ := read_value h w nx w' hr
      rw [hr] at hq
      obtain ⟨rfl, rfl⟩ := hq
      rfl
    | halt x w' => rw [hr] at hq; exact hq.elim
  · exact .inr hn

def headFrom (md : Region.Mode) (ops : Array Oper) : Nat → Nat → Array Bool → Bool
  | 0, _, _ => true
  | f + 1, k, listed => (Region.ready md ops listed).contains k && Region.free md ops listed k && headFrom md ops f (k + 1) (listed.setIfInBounds k true)
def listedFrom : Nat → Nat → Array Bool → Array Bool
  | 0, _, l => l
  | f + 1, k, l => listedFrom f (k + 1) (l.setIfInBounds k true)

theorem reads_held {P : Program} {md : Region.Mode} {ops : Array Oper} {Q : Exit → Act → World → Prop} {S : World → Prop} {g : Nat} (hs : Region.noSelect ops = true) (hQ : ∀ d v c a w, Q (.panic c) (Act.put a d v) w → Q (.panic c) a w) (w : World) (hS : S w) :
    ∀ (l : List Oper) (k : Nat) (listed : Array Bool) (a : Act), (∀ j, j < l.length → l[j]? = ops[k + j]?) → headFrom md ops l.length k listed = true → l.all isRead = true →
      wpQuiet P ops S (fun a' => wpAnyH P md ops Q S g (listedFrom l.length k listed) a' w) l a → wpAnyH P md ops Q S (l.length + g) listed a w
  | [], _, _, _, _, _, _, h => by simpa [wpQuiet, listedFrom] using h
  | o :: l, k, listed, a, hl, hB, hr, h => by
    have h0 : ops[k]? = some o := by simpa using (hl 0 (by simp)).symm
    simp only [List.length_cons, headFrom, Bool.and_eq_true] at hB
    simp only [List.all_cons, Bool.and_eq_true] at hr
    have hst : qOp P ops S k (wpQuiet P ops S (fun a' => wpAnyH P md ops Q S g (listedFrom (o :: l).length k listed) a' w) l) a := by
      unfold qOp; simp only [h0]; exact h
    obtain ⟨v, hy, hK⟩ := yieldsIn_of_qOp h0 hst
    have ih := reads_held hs hQ w hS l (k + 1) (listed.setIfInBounds k true) (a.put o.dst v) (fun j hj => by
      have := hl (j + 1) (by simp; omega)
      simpa [Nat.add_assoc, Nat.add_comm 1 j] using this) hB.2 hr.2 hK
    rw [show (o :: l).length + g = (l.length + g) + 1 by simp; omega]
    exact wpAnyH_take h0 hs hB.1.2 hB.1.1 (fun c a w => hQ o.dst v c a w) (yieldsIf_of_in hr.1 hy) hS ih

/-- The same with a class of worlds of one's own. -/
theorem region_beginS {P : Program} {id : Nat} {Q : Exit → Act → World → Prop} {a : Act} {w : World} {lo : List Oper} (S : World → Prop) (n : Nat) (hn : lo.length = n) (hm : P.follows .mixedOrders = true)
    (h : wpAnyH P .any lo.toArray Q S n (Array.replicate n false) a w.drew) : (Code.region id lo.toArray true).wp P Q a w := by
  refine wp_region_held (S := S) hm ?_
  rw [show lo.toArray.size = n by simpa using hn]
  exact h
/-- n operations, from number k on, that only read, are taken first. -/
theorem region_reads {P : Program} {Q : Exit → Act → World → Prop} {S : World → Prop} {a : Act} {w : World} {lo : List Oper} {listed : Array Bool} (k n g : Nat) (hl : ((lo.drop k).take n).length = n) (hs : Region.noSelect lo.toArray = true)
    (hB : headFrom .any lo.toArray n k listed = true) (hr : ((lo.drop k).take n).all isRead = true) (hQ : ∀ d v c a w, Q (.panic c) (Act.put a d v) w → Q (.panic c) a w) (hS : S w)
    (h : wpQuiet P lo.toArray S (fun a' => wpAnyH P .any lo.toArray Q S g (listedFrom n k listed) a' w) ((lo.drop k).take n) a) : wpAnyH P .any lo.toArray Q S (n + g) listed a w := by
  have := reads_held (P := P) (md := .any) (Q := Q) (g := g) hs hQ w hS ((lo.drop k).take n) k listed a (fun j hj => by
    rw [hl] at hj
    rw [List.getElem?_take_of_lt hj, List.getElem?_drop]
    simp) (by rw [hl]; exact hB) hr (by rw [hl]; exact h)
  rwa [hl] at this
/-- A cut behind a region. -/
theorem region_cut {P : Program} {c : Code} {Q : Exit → Act → World → Prop} {a : Act} {w : World} (F : Act → Act → World → Prop) (h1 : c.wp P (fun e a' w' => e = .normal ∧ F a a' w') a w) (h2 : ∀ a' w', F a a' w' → Q .normal a' w') : c.wp P Q a w :=
  Code.wp_mono (by rintro e a' w' ⟨rfl, h⟩; exact h2 a' w' h) h1

theorem wpOp_wanted {P : Program} {ops : Array Oper} {Q : Exit → Act → World → Prop} {i : Nat} {o : Oper} {K : Act → World → Prop} {a : Act} {w : World} (hi : ops[i]? = some o) (hw : Region.wanted o (yielded ops a.tmps) = true) (h : o.wp P a w K Q) : wpOp P ops Q i K a w := by
  unfold Go.wpOp
  simp only [hi, hw, if_true]
  exact .inl h
theorem wpOp_call {ops : Array Oper} {Q : Exit → Act → World → Prop} {i : Nat} {o : Oper} {K : Act → World → Prop} {a : Act} {w : World} (hi : ops[i]? = some o) (hw : Region.wanted o (yielded ops a.tmps) = true) (f : FuncId) (xs : Array Operand)
    (hf : ∀ (b : Act) (w : World), (execOp b.eval o).run Try.prog w = .ok (.enter f (xs.map b.eval)) w) (vs : Array Value) (hvs : xs.toList.map a.eval = vs.toList)
    (D : Value → World → Prop) (h : Calls Try.prog f vs w fun e w' => ∃ v, e = .returned v ∧ D v w') (d : Option Tmp) (hd : o.dst = d) (hK : ∀ v w', D v w' → K (a.put d v) w') : wpOp Try.prog ops Q i K a w := by
  subst hd
  refine wpOp_wanted hi hw ?_
  unfold Oper.wp
  rw [hf a w, show xs.map a.eval = vs from Array.ext' (by rw [Array.toList_map]; exact hvs)]
  refine h.mono ?_
  rintro e w' ⟨v, rfl, hc⟩
  exact hK v w' hc
theorem wpOp_storeC {ops : Array Oper} {Q : Exit → Act → World → Prop} {i : Nat} {o : Oper} {K : Act → World → Prop} {a : Act} {w : World} (hi : ops[i]? = some o) (hw : Region.wanted o (yielded ops a.tmps) = true) (x y : Operand) (ho : o.op = .store 30 x y)
    (g : Nat) (V M : List Int) (hx : a.eval x = .pointer (some ⟨g, 0, none⟩)) (hy : a.eval y = .agg (cv V M)) (old : Array Value) (hg : w.heap[g]? = some (.cells old 30 (0, 0))) (hold : old.size = 26) (hV : V.length = 13) (hM : M.length = 13) (d : Option Tmp) (hd : o.dst = d)
    (hK : K (a.put d undef) (w.setRow g (cv V M))) : wpOp Try.prog ops Q i K a w := by
  subst hd
  exact wpOp_wanted hi hw (wp_store_row 30 x y ho g (cv V M) hx hy 30 old hg (sizeC V M hV hM) (by rw [cv_size V M hV hM, hold]) (cv_one V M) hK)
theorem wpOp_assign {P : Program} {ops : Array Oper} {Q : Exit → Act → World → Prop} {i : Nat} {o : Oper} {K : Act → World → Prop} {a : Act} {w : World} (hi : ops[i]? = some o) (hw : Region.wanted o (yielded ops a.tmps) = true) (x : Operand) (ho : o.op = .assign x) (v : Value) (hx : a.eval x = v) (d : Option Tmp) (hd : o.dst = d)
    (hK : K (a.put d v) w) : wpOp P ops Q i K a w := by
  subst hd hx
  refine wpOp_wanted hi hw ?_
  unfold Oper.wp execOp
  simp only [ho, Sem.run_pure]
  exact hK
end Go.Proofs.Ytdibjhlckjjlfaa
namespace Go.Proofs.Ytdibjhlckjjlfaa
open Go Go.RowKit
set_option maxRecDepth 20000

/-- The first rule that has a header. -/
def hasR (H : List Int) (r : RuleM) : Bool := has r.cube.1 r.cube.2 H
def rule0 : RuleM := ⟨0, (Z, Z), 0⟩
def lookT (l : List RuleM) (H : List Int) : RuleM × Bool := match l.find? (hasR H) with
  | some r => (r, true)
  | none => (rule0, false)
theorem find_take_none {α : Type} {p : α → Bool} {l : List α} {k : Nat} {x : α} (h : (l.take k).find? p = none) (hx : l[k]? = some x) (hp : p x = false) : (l.take (k + 1)).find? p = none := by
  rw [List.take_add_one, hx, List.find?_append, h]
  simp [hp]
theorem find_of_take {α : Type} {p : α → Bool} {l : List α} {k : Nat} {x : α} (h : (l.take k).find? p = none) (hx : l[k]? = some x) (hp : p x = true) : l.find? p = some x := by
  obtain ⟨hk, rfl⟩ := List.getElem?_eq_some_iff.1 hx
  conv => lhs; rw [← List.take_append_drop k l]
  rw [List.find?_append, h, List.drop_eq_getElem_cons hk, List.find?_cons, hp]
  rfl
theorem rule0_ok : okR8 rule0 := ⟨Z_byt, Z_byt⟩
/-- The end of a function that answers a rule in memory and a truth value. -/
theorem retRb {fn : Func} {R : Ending → World → Prop} {a : Act} {w : World} {p u : Tmp} (hr : fn.results = #[.cell p 37, .tmp u]) (hd : a.defers = []) (g : Nat) (hp : a.tmps.getD p undef = .pointer (some ⟨g, 0, none⟩)) (r : RuleM) (hk : okR8 r)
    (hg : w.heap[g]? = some (.cells (ruleV r) 37 (0, 0))) (v : Value) (hv : a.tmps.getD u undef = v) (h : R (.returned (.tuple #[.agg (ruleV r), v])) w) : bodyPost Try.prog fn R .ret a w := by
  refine bodyPost_ret (v := .tuple #[.agg (ruleV r), v]) ?_ hd h
  have hl := RuleOk.load w g 0 _ _ _ (ruleV r) (ruleV_size hk) hg (own_cells _ _)
  unfold RuleE at hl
  simp only at hl
  have hp' : a.tmps[p]?.getD undef = .pointer (some ⟨g, 0, none⟩) := by simpa using hp
  have hv' : a.tmps[u]?.getD undef = v := by simpa using hv
  simp [results, hr, hp', hv', hl, asAddr]

def RulesAt (w : World) (v : Value) (l : List RuleM) : Prop := GSl RuleE ruleV w v l
set_option maxHeartbeats 8000000 in
set_option maxRecDepth 100000 in
theorem look_any (l : List RuleM) (hl0 : ∀ r ∈ l, okR8 r) (vl : Value) (H : List Int) (hH : Byt H) (w : World) (hl : RulesAt w vl l) :
    Calls Try.prog 15 #[vl, .agg (hv H)] w fun e w' => e = .returned (.tuple #[.agg (ruleV (lookT l H).1), .bool (lookT l H).2]) ∧ Below w.heap.size w w' := by
  have hHl := hH.1
  have HA : Hid (∀ (V M : List Int) W, Byt V → Byt M → Calls Try.prog 16 #[.agg (cv V M), .agg (hv H)] W fun e w' => e = .returned (.bool (has V M H)) ∧ Below W.heap.size W w') := fun V M W h1 h2 => has_any V M H h1 h2 hH W
  obtain ⟨o, cap, rfl, hc1, hc2⟩ := GSl.slice hl
  obtain ⟨n, hn0⟩ : ∃ n, n = l.length := ⟨_, rfl⟩
  have HN : Hid (n = l.length) := hn0
  rw [← hn0] at hl hc1 ⊢
  have HL : Hid (RulesAt w (.slice o n cap) l) := hl
  have HOK : Hid (∀ r ∈ l, okR8 r) := hl0
  unfold maxLen at hc2
  have K0 : Hid (((w.alloc (.cells (hv H) 28)).alloc (.cells RuleE.zero 37)).heap[w.heap.size]? = some (.cells (hv H) 28 (0, 0)) ∧ ((w.alloc (.cells (hv H) 28)).alloc (.cells RuleE.zero 37)).heap[w.heap.size + 1]? = some (.cells RuleE.zero 37 (0, 0))) := ⟨heap_past _ _ _ _ (heap_new _ _ _ rfl), heap_new _ _ _ (by simp)⟩
  have B0 : Hid (Below w.heap.size w ((w.alloc (.cells (hv H) 28)).alloc (.cells RuleE.zero 37))) := ((Below.refl _ _).alloc (Nat.le_refl _) _).alloc (by simp) _
  obtain ⟨S, hS⟩ : ∃ S, S = lookT l H := ⟨_, rfl⟩
  have HS : Hid (S = lookT l H) := hS
  rw [← hS]
  clear hl hn0 hl0 hS
  go_enter Try.func15, Try.ntmps15
  go_wp2_with fail
  go_loopw [10] (fun i wr => ∃ k : Nat, k ≤ n ∧ i = .int .i64 (k : Int) ∧ Hid ((l.take k).find? (hasR H) = none) ∧ wr.heap[w.heap.size]? = some (.cells (hv H) 28 (0, 0)) ∧ wr.heap[w.heap.size + 1]? = some (.cells RuleE.zero 37 (0, 0)) ∧ Below w.heap.size w wr) (fun i _ => n - (intOf i).toNat)
  case atStart => exact ⟨0, Nat.zero_le _, rfl, rfl, K0.out.1, K0.out.2, B0.out⟩
  case round =>
    clear K0 B0
    obtain ⟨k, hk, rfl, HF, h1, h2, hb⟩ := hrel
    have R1 : Hid (wr.heap[w.heap.size]? = some (.cells (hv H) 28 (0, 0))) := h1
    have R2 : Hid (wr.heap[w.heap.size + 1]? = some (.cells RuleE.zero 37 (0, 0))) := h2
    have HB : Hid (Below w.heap.size w wr) := hb
    clear h1 h2 hb
    by_cases hlt : k < n
    · have hlt' : (k : Int) < (n : Int) := by omega
      obtain ⟨g, off, cur, ty, fr, r, rfl, hg, hc, hxk⟩ := (GSl.below HL.out HB.out).at k hlt
      have hr : okR8 r := HOK.out r (List.mem_of_getElem? hxk)
      have HR : Hid (okR8 r) := hr
      have hsz := ruleV_size hr
      have K1 : Hid (wr.heap[g]? = some (.cells cur ty fr)) := hg
      have H1 : Hid (∀ j, j < 28 → cur[off + k * 28 + j]? = (ruleV r)[j]?) := hc
      have KN : Hid ((wr.alloc (.cells (ruleV r) 37)).heap[wr.heap.size]? = some (.cells (ruleV r) 37 (0, 0))) := heap_new _ _ _ rfl
      have RN1 : Hid ((wr.alloc (.cells (ruleV r) 37)).heap[w.heap.size]? = some (.cells (hv H) 28 (0, 0))) := heap_past _ _ _ _ R1.out
      have RN2 : Hid ((wr.alloc (.cells (ruleV r) 37)).heap[w.heap.size + 1]? = some (.cells RuleE.zero 37 (0, 0))) := heap_past _ _ _ _ R2.out
      have BN : Hid (Below w.heap.size w (wr.alloc (.cells (ruleV r) 37))) := HB.out.alloc HB.out.size _
      have HX : Hid (l[k]? = some r) := hxk
      clear hg hc hxk hr
      go_wp2_with (first
        | (refine wl_loadE (E := RuleE) RuleOk rfl _ rfl g (off + k * 28) rfl cur ty fr (ruleV r) hsz K1.out H1.out ?_)
        | (refine wl_storeE (E := RuleE) RuleOk rfl _ _ rfl wr.heap.size (ruleV r) (rule_fits HR.out) rfl rfl _ (heap_new _ _ _ rfl) rfl _ (setRow_new _ _ _ _ _ rfl) ?_)
        | (refine wl_loadCw rfl _ rfl wr.heap.size 1 rfl _ _ _ r.cube.1 r.cube.2 HR.out.1.1 HR.out.2.1 KN.out (rule_at HR.out).2.1 ?_)
        | (refine wl_load26 rfl _ rfl w.heap.size rfl H RN1.out hHl ?_))
      refine (HA.out r.cube.1 r.cube.2 _ HR.out.1 HR.out.2).mono ?_
      rintro e w1 ⟨rfl, hb1⟩
      have B1 : Hid (Below w.heap.size w w1) := BN.out.trans (hb1.mono BN.out.size)
      have KR : Hid (w1.heap[wr.heap.size]? = some (.cells (ruleV r) 37 (0, 0))) := (hb1.block _ (by simp)).trans KN.out
      have R3 : Hid (w1.heap[w.heap.size]? = some (.cells (hv H) 28 (0, 0))) := (hb1.block _ (Array.getElem?_eq_some_iff.1 RN1.out).1).trans RN1.out
      have R4 : Hid (w1.heap[w.heap.size + 1]? = some (.cells RuleE.zero 37 (0, 0))) := (hb1.block _ (Array.getElem?_eq_some_iff.1 RN2.out).1).trans RN2.out
      clear hb1
      cases hhas : has r.cube.1 r.cube.2 H with
      | true =>
        have HE : Hid (S = (r, true)) := by
          show _ = _
          rw [HS.out]
          unfold lookT
          rw [find_of_take HF.out HX.out hhas]
        clear hhas
        go_wp2_with (first
          | (refine wl_loadE (E := RuleE) RuleOk rfl _ rfl wr.heap.size 0 rfl _ _ _ (ruleV r) hsz KR.out (own_cells _ _) ?_)
          | (refine wl_storeE (E := RuleE) RuleOk rfl _ _ rfl (w.heap.size + 1) (ruleV r) (rule_fits HR.out) rfl rfl _ R4.out rfl _ rfl ?_))
        refine retRb rfl rfl (w.heap.size + 1) rfl r HR.out (setRow_heap _ _ _ _ _ _ R4.out) _ rfl ?_
        rw [HE.out]
        exact ⟨rfl, below_setRow B1.out (by omega) _⟩
      | false =>
        have HF2 : Hid ((l.take (k + 1)).find? (hasR H) = none) := find_take_none HF.out HX.out hhas
        clear hhas
        go_wp2_with fail
        go_roundw
        case rel => exact ⟨k + 1, by omega, by go_num, HF2, R3.out, R4.out, B1.out⟩
        case measure => simp [intOf]; omega
    · have hlt' : ¬ (k : Int) < (n : Int) := by omega
      have HE : Hid (S = (rule0, false)) := by
        have e := HN.out
        have hF := HF.out
        rw [List.take_of_length_le (by omega)] at hF
        show _ = _
        rw [HS.out]
        unfold lookT
        rw [hF]
      have HZ : Hid (RuleE.zero = ruleV rule0) := zero_rule
      go_wp2_with (first
        | (refine wl_storeE (E := RuleE) RuleOk rfl _ _ rfl (w.heap.size + 1) (ruleV rule0) (rule_fits rule0_ok) rfl (by rw [← HZ.out]; rfl) _ R2.out rfl _ rfl ?_))
      refine retRb rfl rfl (w.heap.size + 1) rfl rule0 rule0_ok (setRow_heap _ _ _ _ _ _ R2.out) _ rfl ?_
      rw [HE.out]
      exact ⟨rfl, below_setRow HB.out (by omega) _⟩
end Go.Proofs.Ytdibjhlckjjlfaa
namespace Go.Proofs.Ytdibjhlckjjlfaa
open Go.ChangeShapes Go.WideShapes Go.ChangeAt Go.WideMaps Go.WideElems Go.RowKit
set_option maxRecDepth 20000

theorem take_one15 {cs : List Value} {i : Nat} {v : Value} (h : (cs.drop i).take 1 = [v]) : cs[i]? = some v := by
  have := congrArg List.head? h
  rw [List.head?_take, if_neg (by decide), List.head?_drop] at this
  simpa using this
theorem field_int15 {P : Program} {H : Type} {enc : TypeId × Value → H} {W : World} {base : Nat} {spare : Nat → Bool} {held : Bool} {n : Nat} {t : TypeId} {cs : List Value} {y : Option (DataW H × List MemPlace)} {i : Nat} {k : IntKind} (ht : P.underlying t = some (.int k)) (hc : P.cellsOf t = 1)
    (h : DataW.trod enc P W base spare held n t ((cs.drop i).take (P.cellsOf t)) = y) (hy : y.isSome = true) : ∃ z : Int, cs[i]? = some (.int k z) := by
  obtain ⟨y', rfl⟩ := Option.isSome_iff_exists.1 hy
  obtain ⟨z, h1, _, h3⟩ := DataW.trod_int ht h
  rw [hc] at h1
  exact ⟨z, take_one15 h1⟩
theorem xs_some15 {α : Type} {xs : List α} {n i : Nat} (h : xs.length = n) (hi : i < n) : (xs[i]?).isSome = true := by
  rw [List.getElem?_eq_getElem (by omega)]; rfl
theorem cube_of15 {H : Type} {enc : TypeId × Value → H} {W : World} {base : Nat} {spare : Nat → Bool} {held : Bool} {fuel : Nat} {cs : List Value} {x : DataW H × List MemPlace} (hl : cs.length = 26)
    (h : DataW.trod enc Try.prog W base spare held fuel 30 cs = some x) : ∃ V M : List Int, cs = (cv V M).toList ∧ Byt V ∧ Byt M := by
  have c13 : Try.prog.cellsOf 28 = 13 := by kernel_rfl
  obtain ⟨y0, y1, k, hy, _, t0, t1⟩ := trod_struct2 Try.underlying30 h
  rw [c13] at t0 t1
  obtain ⟨V, hV, bV⟩ := bytes_of (by simp; omega) t0
  obtain ⟨M, hM, bM⟩ := bytes_of (by simp; omega) t1
  refine ⟨V, M, ?_, bV, bM⟩
  unfold cv hv
  rw [List.map_append, ← hV, ← hM]
  simp only [List.drop_zero]
  rw [List.take_of_length_le (l := List.drop 13 cs) (by simp; omega), List.take_append_drop]
theorem rule_of15 {H : Type} {enc : TypeId × Value → H} {W : World} {base : Nat} {spare : Nat → Bool} {held : Bool} (fuel : Nat) (cs : List Value) (x : DataW H × List MemPlace) (hl : cs.length = 28)
    (h : DataW.trod enc Try.prog W base spare held fuel 37 cs = some x) : ∃ r : { r : RuleM // okR8 r }, cs = (ruleV r.1).toList ∧ True := by
  have c3 : Try.prog.cellsOf 3 = 1 := by kernel_rfl
  have c26 : Try.prog.cellsOf 30 = 26 := by kernel_rfl
  obtain ⟨xs, n, _, _, _, hxl, hf⟩ := DataW.trod_struct Try.underlying37 h
  obtain ⟨n0, h0⟩ := field_int15 Try.underlying3 c3 (hf 0 _ rfl) (xs_some15 hxl (by decide))
  obtain ⟨n2, h2⟩ := field_int15 Try.underlying3 c3 (hf 2 _ rfl) (xs_some15 hxl (by decide))
  have h1 : DataW.trod enc Try.prog W base spare held n 30 ((cs.drop 1).take (Try.prog.cellsOf 30)) = xs[1]? := hf 1 _ rfl
  have hs1 := xs_some15 hxl (show 1 < 3 by decide)
  obtain ⟨y, hy⟩ := Option.isSome_iff_exists.1 hs1
  rw [hy] at h1
  rw [c26] at h1
  obtain ⟨V, M, hVM, bV, bM⟩ := cube_of15 (by simp; omega) h1
  have hR : okR8 ⟨n0, (V, M), n2⟩ := ⟨bV, bM⟩
  have key : cs = (ruleV ⟨n0, (V, M), n2⟩).toList := by
    have hsz := ruleV_size hR
    obtain ⟨r0, r1, r2⟩ := rule_at hR
    apply List.ext_getElem?
    intro k
    have e : (ruleV ⟨n0, (V, M), n2⟩).toList[k]? = (ruleV ⟨n0, (V, M), n2⟩)[k]? := Array.getElem?_toList
    rw [e]
    rcases (show k = 0 ∨ (1 ≤ k ∧ k < 27) ∨ k = 27 ∨ 28 ≤ k by omega) with rfl | ⟨k1, k2⟩ | rfl | hk
    · rw [r0]; exact h0
    · obtain ⟨j, rfl⟩ : ∃ j, k = 1 + j := ⟨k - 1, by omega⟩
      rw [r1 j (by omega), ← Array.getElem?_toList, ← hVM, List.getElem?_take_of_lt (by omega), List.getElem?_drop]
    · rw [r2]; exact h2
    · rw [List.getElem?_eq_none (by omega), Array.getElem?_eq_none (by omega)]
  exact ⟨⟨_, hR⟩, key, trivial⟩
theorem gsl_map15 {α β : Type} {E : El} {enc : β → Array Value} {f : α → β} {w : World} {v : Value} {C : List α} (h : GSl E (fun a => enc (f a)) w v C) : GSl E enc w v (C.map f) := by
  obtain ⟨o, cap, h1, h2, h3, h4⟩ := h
  refine ⟨o, cap, by rw [List.length_map]; exact h1, by rw [List.length_map]; exact h2, h3, fun i hi => ?_⟩
  have hi' : i < C.length := by rw [List.length_map] at hi; exact hi
  obtain ⟨g, off, cur, t, fr, e1, e2, e3⟩ := h4 i hi'
  refine ⟨g, off, cur, t, fr, e1, e2, fun j hj => ?_⟩
  have e4 := e3 j hj
  rw [List.getElem_map]
  exact e4
/-- Rules that come in. -/
theorem open_rules15 {H : Type} {enc : TypeId × Value → H} {W : World} {r : Reach} {b0 base : Nat} {spare : Nat → Bool} {held : Bool} {v : Value} {d : DataW H} {p : List MemPlace}
    (hok : Value.okWide Try.prog W r b0 22 v) (h : DataW.Trod enc Try.prog W base spare held 22 v d p) :
    ∃ l, RulesAt W v l ∧ ∀ r ∈ l, okR8 r := by
  obtain ⟨fuel, hf⟩ := h
  have hv1 : v.cells.toList = [v] := by
    simp only [Value.okWide, Cell.okWide, Cell.ok, Try.underlying22] at hok
    cases v <;> simp_all [Value.cells]
  rw [hv1] at hf
  have hin : Inhabited { r : RuleM // okR8 r } := ⟨⟨rule0, rule0_ok⟩⟩
  have hsz : ∀ a : { r : RuleM // okR8 r }, (ruleV a.1).size = RuleE.size := fun a => ruleV_size a.2
  have hof : ∀ (fuel : Nat) (cs : List Value) (x : DataW H × List MemPlace), cs.length = RuleE.size → DataW.trod enc Try.prog W base spare held fuel RuleE.elem cs = some x → ∃ r : { r : RuleM // okR8 r }, cs = (ruleV r.1).toList ∧ True := fun fuel cs x h1 h2 => rule_of15 fuel cs x h1 h2
  obtain ⟨l, h1, _⟩ := open_any (E := RuleE) RuleOk (fun r : { r : RuleM // okR8 r } => ruleV r.1) hsz (fun _ => True) hof hf
  refine ⟨l.map (fun q : { r : RuleM // okR8 r } => q.1), gsl_map15 (enc := ruleV) (f := fun q : { r : RuleM // okR8 r } => q.1) h1, fun r hr => ?_⟩
  obtain ⟨q, _, rfl⟩ := List.mem_map.1 hr
  exact q.2
end Go.Proofs.Ytdibjhlckjjlfaa
namespace Go.Proofs.Ytdibjhlckjjlfaa
open Go Go.RowKit
set_option maxRecDepth 20000

section
variable {P : Program} {ops : Array Oper} {md : Region.Mode} {C : World → Prop}

/-- Each operation behind the first n + 1 waits for one of those from n on. -/
def chainW (md : Region.Mode) (ops : Array Oper) (n : Nat) : Bool :=
  (List.range ops.size).all fun t => decide (t ≤ n) || (List.range t).any fun s => decide (n ≤ s) && Region.waitsFor md ops t s

theorem waits_tail {n : Nat} {listed : Array Bool} (hs : Region.sinkB md ops n = true) (hc : chainW md ops n = true) (inv : HeadInv md ops n listed) :
    ∀ (d i : Nat), n - i = d → i < n → listed.getD i true = false → ∀ t, n ≤ t → t ∉ Region.ready md ops listed := by
  intro d
  induction d using Nat.strongRecOn with
  | _ d ih =>
    intro i hd hi hun t ht hr
    obtain ⟨_, ot, hot, hall⟩ := mem_ready.1 hr
    have htlt : t < ops.size := (Array.getElem?_eq_some_iff.1 hot).1
    by_cases htn : t = n
    · subst htn
      have h1 := List.all_eq_true.1 hs i (List.mem_range.2 hi)
      obtain ⟨j, hj, hj2⟩ := List.any_eq_true.1 h1
      simp only [Bool.and_eq_true, decide_eq_true_eq] at hj2
      obtain ⟨oj, hoj, e, he, hb, hon⟩ := Region.waitsFor_spec hj2.2
      have hjle : j ≤ t := by have := List.mem_range.1 hj; omega
      by_cases hjt : j = t
      · subst hjt
        have : oj = ot := Option.some.inj (hoj.symm.trans hot)
        subst this
        have h2 := hall e he hb
        rw [hon, getD_both hun] at h2
        cases h2
      · cases hl : listed.getD j false with
        | true =>
          have h2 := inv.closed j oj hoj hl e he hb
          rw [hon, getD_both hun] at h2
          cases h2
        | false =>
          have hjs : j < listed.size := by rw [inv.size]; omega
          exact ih (t - j) (by omega) j rfl (by omega) (getD_in hjs hl) t (Nat.le_refl _) hr
    · have h1 := List.all_eq_true.1 hc t (List.mem_range.2 htlt)
      simp only [Bool.or_eq_true, decide_eq_true_eq] at h1
      rcases h1 with h1 | h1
      · omega
      · obtain ⟨s, hs1, hs2⟩ := List.any_eq_true.1 h1
        simp only [Bool.and_eq_true, decide_eq_true_eq] at hs2
        have hst := List.mem_range.1 hs1
        obtain ⟨o', ho', e, he, hb, hon⟩ := Region.waitsFor_spec hs2.2
        have : o' = ot := Option.some.inj (ho'.symm.trans hot)
        subst this
        have h2 := hall e he hb
        rw [hon, getD_both (inv.tail s hs2.1 (by omega))] at h2
        cases h2

theorem anyH_first {n i : Nat} {oi : Oper} {v : Value} {L : Array Bool → Act → Prop} (hi : ops[i]? = some oi) (hsel : ∀ (j : Nat) (o : Oper) cs b, ops[j]? = some o → o.op ≠ .select cs b)
    (hs : Region.sinkB md ops n = true) (hc : chainW md ops n = true) (hin : i < n)
    (hdone : ∀ listed a, L listed a → ∀ j ∈ Region.ready md ops listed, n ≤ j) :
    ∀ (f : Nat) (listed : Array Bool) (a : Act), HeadInv md ops n listed →
      (∀ j oj, ops[j]? = some oj → j ≠ i → listed.getD j true = false → (∀ e ∈ oj.after, Region.binds md e = true → e.on ≠ i) → oi.apart ops oj = true) →
      i ∈ Region.ready md ops listed → YieldsIn P ops C oi v a →
      anyL P md ops C n L f (listed.setIfInBounds i true) (a.put oi.dst v) → anyL P md ops C n L (f + 1) listed a := by
  intro f
  induction f with
  | zero =>
    intro listed a inv _ hr hy H
    have hun := (mem_ready.1 hr).1
    refine ⟨fun h => (by rw [h] at hr; cases hr), fun j hj => ?_⟩
    have hjn : j < n := by
      rcases Nat.lt_or_ge j n with h | h
      · exact h
      · exact absurd hj (waits_tail hs hc inv _ i rfl hin hun j h)
    refine ⟨hjn, ?_⟩
    by_cases hji : j = i
    · subst hji; exact hy.qOp hi H
    · have := hdone _ _ H j (ready_mono hj hji)
      omega
  | succ f ih =>
    intro listed a inv hfree hr hy H
    have hun := (mem_ready.1 hr).1
    refine ⟨fun h => (by rw [h] at hr; cases hr), fun j hj => ?_⟩
    have hjn : j < n := by
      rcases Nat.lt_or_ge j n with h | h
      · exact h
      · exact absurd hj (waits_tail hs hc inv _ i rfl hin hun j h)
    refine ⟨hjn, ?_⟩
    by_cases hji : j = i
    · subst hji; exact hy.qOp hi H
    · have h1 := (H.2 j (ready_mono hj hji)).2
      obtain ⟨hjun, oj, hoj, hall⟩ := mem_ready.1 hj
      have hnot : ∀ e ∈ oj.after, Region.binds md e = true → e.on ≠ i := fun e he hb heq => by
        have h1 := hall e he hb
        rw [heq, getD_both hun] at h1
        cases h1
      have h2 := qOp_put hoj (hfree j oj hoj hji hjun hnot) (fun cs b => hsel i oi cs b hi) (fun cs b => hsel j oj cs b hoj) hy h1
      have hfree' : ∀ k ok, ops[k]? = some ok → k ≠ i → (listed.setIfInBounds j true).getD k true = false →
          (∀ e ∈ ok.after, Region.binds md e = true → e.on ≠ i) → oi.apart ops ok = true := fun k ok hk hki hun hno => by
        refine hfree k ok hk hki ?_ hno
        by_cases hjk : j = k
        · subst hjk; exact hjun
        · rw [getD_set_ne true hjk] at hun; exact hun
      refine qOp_mono (fun a' h3 => ih (listed.setIfInBounds j true) a' (inv.set hj hjn) hfree' (ready_mono hr (Ne.symm hji)) h3.1 ?_) h2
      rw [Array.setIfInBounds_comm _ _ hji]
      exact h3.2

def headB (md : Region.Mode) (ops : Array Oper) (L0 : Array Bool) : Nat → Nat → Array Bool → Bool
  | 0, _, listed => decide (listed = L0)
  | f + 1, k, listed => (Region.ready md ops listed).contains k && Region.free md ops listed k && headB md ops L0 f (k + 1) (listed.setIfInBounds k true)

theorem anyH_lex {n : Nat} {L0 : Array Bool} {Lq : Act → Prop} (hsel : Region.noSelect ops = true) (hs : Region.sinkB md ops n = true) (hc : chainW md ops n = true) (hd : ∀ j ∈ Region.ready md ops L0, n ≤ j) :
    ∀ (l : List Oper) (k : Nat) (listed : Array Bool) (a : Act), (∀ j, j < l.length → l[j]? = ops[k + j]?) → k + l.length = n → HeadInv md ops n listed →
    headB md ops L0 l.length k listed = true → wpQuiet P ops C Lq l a →
    anyL P md ops C n (fun listed' a' => listed' = L0 ∧ Lq a') l.length listed a
  | [], k, listed, a, _, hk, _, hB, h => ⟨by simpa [headB] using hB, h⟩
  | o :: l, k, listed, a, hl, hk, inv, hB, h => by
    have h0 : ops[k]? = some o := by simpa using (hl 0 (by simp)).symm
    simp only [List.length_cons, headB, Bool.and_eq_true] at hB
    obtain ⟨⟨hr, hf⟩, hB'⟩ := hB
    have hkn : k < n := by simp only [List.length_cons] at hk; omega
    have hr' : k ∈ Region.ready md ops listed := by simpa using hr
    have hst : qOp P ops C k (wpQuiet P ops C Lq l) a := by unfold qOp; simp only [h0]; exact h
    obtain ⟨v, hy, hK⟩ := yieldsIn_of_qOp h0 hst
    exact anyH_first h0 (Region.noSelect_spec hsel) hs hc hkn (fun listed' a' hL => by rw [hL.1]; exact hd) l.length listed a inv (Region.free_spec h0 hf) hr' hy
      (anyH_lex hsel hs hc hd l (k + 1) _ _ (fun j hj => by have := hl (j + 1) (by simp; omega); simpa [Nat.add_assoc, Nat.add_comm 1 j] using this) (by simp only [List.length_cons] at hk; omega) (inv.set hr' hkn) hB' hK)
end

/-- A drawn region whose first n operations only read and call; what is left is asked of every order. -/
theorem wp_region_head {P : Program} {id : Nat} {Q : Exit → Act → World → Prop} {a : Act} {w : World} {l : List Oper} (n g : Nat) (L0 : Array Bool) (hm : P.follows .mixedOrders = true)
    (hsel : Region.noSelect l.toArray = true) (hs : Region.sinkB .any l.toArray n = true) (hc : chainW .any l.toArray n = true) (hd : (Region.ready .any l.toArray L0).all (fun j => decide (n ≤ j)) = true) (hB : headB .any l.toArray L0 n 0 (Array.replicate l.toArray.size false) = true) (hg : l.length = n + g)
    (h : wpQuiet P l.toArray (fun w' => ∃ u : Later w, w' = u.world) (fun a' => ∀ w', (∃ u : Later w, w' = u.world) → wpAny P .any l.toArray Q g L0 a' w') (l.take n) a) : (Code.region id l.toArray true).wp P Q a w := by
  have htl : (l.take n).length = n := by simp; omega
  have inv0 : HeadInv .any l.toArray n (Array.replicate l.toArray.size false) :=
    ⟨by simp, fun j oj _ hl => (by rw [getD_replicate_false] at hl; cases hl), fun t _ ht => getD_in (by simpa using ht) (getD_replicate_false _ _)⟩
  have H := anyH_lex (md := .any) (L0 := L0) hsel hs hc (fun j hj => of_decide_eq_true (List.all_eq_true.1 hd j hj)) (l.take n) 0 _ a (fun j hj => by
    have hj' : j < n := by rw [htl] at hj; exact hj
    simp [hj']) (by simpa using htl) inv0 (by rw [htl]; exact hB) h
  refine wp_region_any hm ?_
  have hC : (fun w' => ∃ u : Later w, w' = u.world) w.drew := ⟨⟨w.drew, (Below.refl _ _).drew⟩, rfl⟩
  have := any_of_head (Q' := Q) (g := g) (fun listed a' w' hw' hL => by rw [hL.1]; exact hL.2 w' hw') _ _ _ _ hC H
  rw [htl] at this
  rw [show l.toArray.size = n + g by simpa using hg]
  rw [show l.toArray.size = n + g by simpa using hg] at this
  exact this

/-- Two that reckon, then a store that waits for the first one alone. -/
theorem any_two {P : Program} {ops : Array Oper} {Q : Exit → Act → World → Prop} {a : Act} {w w' : World} {i0 i1 i2 : Nat} {o0 o1 o2 : Oper} {v0 v1 : Value} (L : Array Bool) (h0 : ops[i0]? = some o0) (h1 : ops[i1]? = some o1) (h2 : ops[i2]? = some o2)
    (r0 : Region.ready .any ops L = [i0, i1]) (r1 : Region.ready .any ops (L.setIfInBounds i0 true) = [i1, i2]) (r2 : Region.ready .any ops (L.setIfInBounds i1 true) = [i0]) (r3 : Region.ready .any ops ((L.setIfInBounds i0 true).setIfInBounds i1 true) = [i2])
    (r4 : Region.ready .any ops ((L.setIfInBounds i0 true).setIfInBounds i2 true) = [i1]) (r5 : Region.ready .any ops (((L.setIfInBounds i0 true).setIfInBounds i1 true).setIfInBounds i2 true) = []) (d1 : i1 ≠ i0) (d2 : i2 ≠ i1)
    (q0 : o0.guard = none) (q1 : o1.guard = none) (q2 : o2.guard = none) (q3 : o2.dst = none)
    (e0 : (execOp a.eval o0).run P w = .ok (.value v0) w) (e0' : (execOp (a.put o1.dst v1).eval o0).run P w = .ok (.value v0) w)
    (e1 : (execOp a.eval o1).run P w = .ok (.value v1) w) (e1a : (execOp (a.put o0.dst v0).eval o1).run P w = .ok (.value v1) w) (e1b : (execOp (a.put o0.dst v0).eval o1).run P w' = .ok (.value v1) w')
    (e2 : (execOp (a.put o0.dst v0).eval o2).run P w = .ok .skip w') (e2a : (execOp ((a.put o0.dst v0).put o1.dst v1).eval o2).run P w = .ok .skip w')
    (comm : (a.put o1.dst v1).put o0.dst v0 = (a.put o0.dst v0).put o1.dst v1)
    (h : Q .normal ((a.put o0.dst v0).put o1.dst v1) w') : wpAny P .any ops Q 3 L a w := by
  have pn : ∀ (b : Act) (v : Value), b.put none v = b := fun b v => rfl
  have fin : wpAny P .any ops Q 0 (((L.setIfInBounds i0 true).setIfInBounds i1 true).setIfInBounds i2 true) ((a.put o0.dst v0).put o1.dst v1) w' := ⟨r5, h⟩
  refine any_step [i0, i1] r0 (by simp) fun i hi => ?_
  simp only [List.mem_cons, List.not_mem_nil, or_false] at hi
  rcases hi with rfl | rfl
  · refine wpOp_value h0 q0 e0 (any_step [i1, i2] r1 (by simp) fun j hj => ?_)
    simp only [List.mem_cons, List.not_mem_nil, or_false] at hj
    rcases hj with rfl | rfl
    · refine wpOp_value h1 q1 e1a (any_step [i2] r3 (by simp) fun j hj => ?_)
      simp only [List.mem_cons, List.not_mem_nil, or_false] at hj
      subst hj
      refine wpOp_skip h2 q2 e2a ?_
      rw [q3, pn]
      exact fin
    · refine wpOp_skip h2 q2 e2 ?_
      rw [q3, pn]
      refine any_step [i1] r4 (by simp) fun j hj => ?_
      simp only [List.mem_cons, List.not_mem_nil, or_false] at hj
      subst hj
      refine wpOp_value h1 q1 e1b ?_
      rw [Array.setIfInBounds_comm _ _ d2]
      exact fin
  · refine wpOp_value h1 q1 e1 (any_step [i0] r2 (by simp) fun j hj => ?_)
    simp only [List.mem_cons, List.not_mem_nil, or_false] at hj
    subst hj
    refine wpOp_value h0 q0 e0' ?_
    rw [comm, Array.setIfInBounds_comm _ _ d1]
    refine any_step [i2] r3 (by simp) fun j hj => ?_
    simp only [List.mem_cons, List.not_mem_nil, or_false] at hj
    subst hj
    refine wpOp_skip h2 q2 e2a ?_
    rw [q3, pn]
    exact fin
theorem run_move (P : Program) (a : Act) (o : Oper) (w : World) (x : Operand) (v : Value) (ho : o.op = .move x) (hx : a.eval x = v) : (execOp a.eval o).run P w = .ok (.value v) w := by
  unfold execOp
  simp only [ho, Sem.run_pure, hx]
theorem run_extract (P : Program) (a : Act) (o : Oper) (w : World) (x : Operand) (i : Nat) (vs : Array Value) (v : Value) (ho : o.op = .extract x i) (hx : a.eval x = .tuple vs) (hv : vs[i]? = some v) : (execOp a.eval o).run P w = .ok (.value v) w := by
  unfold execOp
  simp [ho, hx, Instr.extract, hv]
end Go.Proofs.Ytdibjhlckjjlfaa
namespace Go.Proofs.Ytdibjhlckjjlfaa
open Go Go.RowKit
set_option maxRecDepth 20000

theorem has_meets {V M V' M' H : List Int} (h : has V M H = true) (h' : has V' M' H = true) : meets V M V' M' = true := by
  rw [has_iff] at h h'
  exact (meets_iff _ _ _ _).2 fun i hi h1 h2 => by rw [h i hi h1, h' i hi h2]
end Go.Proofs.Ytdibjhlckjjlfaa
namespace Go.Proofs.Ytdibjhlckjjlfaa
open Go Go.RowKit
set_option maxRecDepth 20000

/-- A bit of a cube: 0, 1, or 2, if it is free. -/
def atI (V M : List Int) (i : Nat) : Int := if bt M i then (if bt V i then 1 else 0) else 2
theorem at_ne2 (V M : List Int) (i : Nat) : (atI V M i != 2) = bt M i := by
  unfold atI; cases bt M i <;> cases bt V i <;> rfl
theorem at_eq1 (V M : List Int) (i : Nat) : (atI V M i == 1) = (bt V i && bt M i) := by
  unfold atI; cases bt M i <;> cases bt V i <;> rfl
set_option maxHeartbeats 1000000 in
theorem at_any (V M : List Int) (hV : Byt V) (hM : Byt M) (i : Nat) (hi : i < 104) (w : World) :
    Calls Try.prog 19 #[.agg (cv V M), .int .i64 (i : Int)] w fun e w' => e = .returned (.int .i64 (atI V M i)) ∧ Below w.heap.size w w' := by
  have hVl := hV.1
  have hMl := hM.1
  have CM : Hid (∀ W, Calls Try.prog 33 #[.agg (hv M), .int .i64 (i : Int)] W fun e w' => e = .returned (.bool (bt M i)) ∧ Below W.heap.size W w') := rbit_nat M hM i hi
  have CV : Hid (∀ W, Calls Try.prog 33 #[.agg (hv V), .int .i64 (i : Int)] W fun e w' => e = .returned (.bool (bt V i)) ∧ Below W.heap.size W w') := rbit_nat V hV i hi
  clear hV hM
  unfold atI
  obtain ⟨bm, hbm⟩ : ∃ b, b = bt M i := ⟨_, rfl⟩
  obtain ⟨bv, hbv⟩ : ∃ b, b = bt V i := ⟨_, rfl⟩
  rw [← hbm] at CM ⊢
  rw [← hbv] at CV ⊢
  clear hbm hbv
  go_enter Try.func19, Try.ntmps19
  go_wp2_with (first
    | (refine wl_loadM rfl _ rfl w.heap.size rfl V M (heap_new _ _ _ rfl) hVl hMl ?_))
  refine (CM.out _).mono ?_
  rintro e w1 ⟨rfl, hb1⟩
  have g0 : w1.heap[w.heap.size]? = some (.cells (cv V M) 30 (0, 0)) := by rw [hb1.block _ (by simp)]; exact heap_new _ _ _ rfl
  have B1 : Below w.heap.size w w1 := ((Below.refl _ _).alloc (Nat.le_refl _) _).trans (hb1.mono (by simp))
  clear hb1 CM
  cases bm
  · go_wp2_with fail
    go_ret
    exact ⟨rfl, B1⟩
  · go_wp2_with (first
      | (refine wl_loadV rfl _ rfl w.heap.size rfl V M g0 hVl ?_))
    refine (CV.out _).mono ?_
    rintro e w2 ⟨rfl, hb2⟩
    have B2 := B1.trans (hb2.mono B1.size)
    clear hb2 CV
    cases bv
    · go_wp2_with fail
      go_ret
      exact ⟨rfl, B2⟩
    · go_wp2_with fail
      go_ret
      exact ⟨rfl, B2⟩

set_option maxHeartbeats 1000000 in
theorem rset_any (V M : List Int) (hV : Byt V) (hM : Byt M) (i : Nat) (hi : i < 104) (v : Int) (w : World) :
    Calls Try.prog 20 #[.agg (cv V M), .int .i64 (i : Int), .int .i64 v] w fun e w' => e = .returned (.agg (cv (setb V i (v == 1)) (setb M i (v != 2)))) ∧ Below w.heap.size w w' := by
  have hVl := hV.1
  have hMl := hM.1
  have hFl : (setb M i (v != 2)).length = 13 := (setb_byt M i _).1
  have hGl : (setb V i (v == 1)).length = 13 := (setb_byt V i _).1
  have C1 : Hid (∀ W, Calls Try.prog 34 #[.agg (hv M), .int .i64 (i : Int), .bool (v != 2)] W fun e w' => e = .returned (.agg (hv (setb M i (v != 2)))) ∧ Below W.heap.size W w') := rput_nat M hM i hi _
  have C2 : Hid (∀ W, Calls Try.prog 34 #[.agg (hv V), .int .i64 (i : Int), .bool (v == 1)] W fun e w' => e = .returned (.agg (hv (setb V i (v == 1)))) ∧ Below W.heap.size W w') := rput_nat V hV i hi _
  clear hV hM
  obtain ⟨N, hN⟩ : ∃ N, N = setb M i (v != 2) := ⟨_, rfl⟩
  obtain ⟨U, hU⟩ : ∃ U, U = setb V i (v == 1) := ⟨_, rfl⟩
  rw [← hN] at C1 hFl ⊢
  rw [← hU] at C2 hGl ⊢
  clear hN hU
  go_enter Try.func20, Try.ntmps20
  have g0 : ((w.alloc (.cells (cv V M) 30)).alloc (.cells zeroC 30)).heap[w.heap.size]? = some (.cells (cv V M) 30 (0, 0)) := heap_past _ _ _ _ (heap_new _ _ _ rfl)
  have g1 : ((w.alloc (.cells (cv V M) 30)).alloc (.cells zeroC 30)).heap[w.heap.size + 1]? = some (.cells zeroC 30 (0, 0)) := heap_new _ _ _ (by simp)
  have hb : Below w.heap.size w ((w.alloc (.cells (cv V M) 30)).alloc (.cells zeroC 30)) := ((Below.refl _ _).alloc (Nat.le_refl _) _).alloc (by simp) _
  go_wp2_with (first
    | (refine wl_loadM rfl _ rfl w.heap.size rfl V M g0 hVl hMl ?_))
  refine (C1.out _).mono ?_
  rintro e w2 ⟨rfl, hb2⟩
  have m0 : w2.heap[w.heap.size]? = some (.cells (cv V M) 30 (0, 0)) := by rw [hb2.block _ (by simp; omega)]; exact g0
  have m1 : w2.heap[w.heap.size + 1]? = some (.cells zeroC 30 (0, 0)) := by rw [hb2.block _ (by simp)]; exact g1
  have hz2 : w.heap.size + 2 ≤ w2.heap.size := Nat.le_trans (by simp) hb2.size
  have hB2 := hb.trans (hb2.mono hb.size)
  clear g0 g1 hb hb2 C1
  have n0 : (w2.setRow w.heap.size (cv V N)).heap[w.heap.size]? = some (.cells (cv V N) 30 (0, 0)) := setRow_heap _ _ _ _ _ _ m0
  have n1 : (w2.setRow w.heap.size (cv V N)).heap[w.heap.size + 1]? = some (.cells zeroC 30 (0, 0)) := (setRow_other _ _ _ _ (by omega)).trans m1
  go_wp2_with (first
    | (refine wl_storeM rfl _ _ rfl w.heap.size rfl V M N rfl hVl hMl hFl m0 _ rfl ?_)
    | (refine wl_loadV rfl _ rfl w.heap.size rfl V N n0 hVl ?_))
  refine (C2.out _).mono ?_
  rintro e w3 ⟨rfl, hb3⟩
  have p0 : w3.heap[w.heap.size]? = some (.cells (cv V N) 30 (0, 0)) := by rw [hb3.block _ (by simp; omega)]; exact n0
  have p1 : w3.heap[w.heap.size + 1]? = some (.cells zeroC 30 (0, 0)) := by rw [hb3.block _ (by simp; omega)]; exact n1
  have hB3 := (below_setRow hB2 (Nat.le_refl _) (cv V N)).trans (hb3.mono (by simpa using hB2.size))
  clear m0 m1 n0 n1 hB2 hb3 hz2 C2
  have q0 : (w3.setRow w.heap.size (cv U N)).heap[w.heap.size]? = some (.cells (cv U N) 30 (0, 0)) := setRow_heap _ _ _ _ _ _ p0
  have q1 : (w3.setRow w.heap.size (cv U N)).heap[w.heap.size + 1]? = some (.cells zeroC 30 (0, 0)) := (setRow_other _ _ _ _ (by omega)).trans p1
  go_wp2_with (first
    | (refine wl_storeV rfl _ _ rfl w.heap.size rfl V N U rfl hVl hFl hGl p0 _ rfl ?_)
    | (refine wl_loadC rfl _ rfl w.heap.size rfl U N q0 hGl hFl ?_)
    | (refine wl_storeC rfl _ _ rfl (w.heap.size + 1) U N rfl rfl _ q1 rfl hGl hFl _ rfl ?_))
  refine retC (p := 6) rfl rfl (w.heap.size + 1) rfl _ _ hGl hFl (setRow_heap _ _ _ _ _ _ q1) ⟨rfl, ?_⟩
  exact below_setRow (below_setRow hB3 (Nat.le_refl _) _) (by omega) _

/-- The bits ahead of a place, all others nought. -/
def upto (k : Nat) (f : Nat → Bool) : List Int := mk fun j => decide (j < k) && f j
theorem upto_byt (k : Nat) (f : Nat → Bool) : Byt (upto k f) := mk_byt _
theorem upto_zero (f : Nat → Bool) : upto 0 f = Z := mk_ext _ _ fun i _ => by simp
theorem upto_all (f : Nat → Bool) : upto 104 f = mk f := mk_ext _ _ fun i hi => by simp [hi]
theorem upto_succ (k : Nat) (f : Nat → Bool) : setb (upto k f) k (f k) = upto (k + 1) f :=
  mk_ext _ _ fun i hi => by
    by_cases e : i = k
    · subst e; simp
    · rw [if_neg e]
      unfold upto
      rw [mk_bt _ i hi]
      congr 1
      rw [decide_eq_decide]
      omega
end Go.Proofs.Ytdibjhlckjjlfaa
