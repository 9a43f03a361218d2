import Derived.Test.YtbigifmfbibgoaaJ5
import Derived.Test.YtbigifmfbibgoaaJ1
import Derived.OrdersHeld
import Derived.BigQuiet
namespace Go.Proofs.Ytbigifmfbibgoaa
open Go Go.RowKit
set_option maxRecDepth 20000

def awH0 : HoldM := newH 1
def awH1 : HoldM := (itemH awH0 0 1 0 2).1
def awH2 : HoldM := (itemH awH1 0 1 0 2).1
def awH3 : HoldM := (leadH awH2 5 1 0).1
def awH4 : HoldM := (itemH awH3 0 1 1 2).1
def awH5 : HoldM := (leadH awH4 5 1 0).1
theorem awH_1 : (itemH awH0 0 1 0 2).2 = 1 := by decide
theorem awH_2 : (itemH awH1 0 1 0 2).2 = 2 := by decide
theorem awH_3 : (leadH awH2 5 1 0).2 = false := by decide
theorem awH_4 : (itemH awH3 0 1 1 2).2 = 1 := by decide
theorem awH_5 : (leadH awH4 5 1 0).2 = true := by decide
theorem awH_6 : liveH awH5 7 3 = true := by decide
theorem awH_7 : liveH awH5 8 3 = false := by decide
theorem awH_8 : awH5.use = 1 := by decide
theorem awH_i0 : HoldIn awH0 := new_hoIn 1
theorem awH_i1 : HoldIn awH1 := ⟨item_ok awH_i0.ok _ _ _ _, item_hoB awH_i0.b _ _ _ _⟩
theorem awH_i2 : HoldIn awH2 := ⟨item_ok awH_i1.ok _ _ _ _, item_hoB awH_i1.b _ _ _ _⟩
theorem awH_i3 : HoldIn awH3 := ⟨lead_ok awH_i2.ok _ _ _, lead_hoB awH_i2.b _ _ _ (by decide)⟩
theorem awH_i4 : HoldIn awH4 := ⟨item_ok awH_i3.ok _ _ _ _, item_hoB awH_i3.b _ _ _ _⟩
theorem awH_i5 : HoldIn awH5 := ⟨lead_ok awH_i4.ok _ _ _, lead_hoB awH_i4.b _ _ _ (by decide)⟩
theorem useHo_any (w : World) (g : Nat) (h : HoldM) (hV : HoldV w g h) :
    Calls Try.prog 17 #[.pointer (some ⟨g, 0, none⟩)] w fun x w' => x = .returned (.int .i64 h.use) ∧ w' = w := by
  obtain ⟨s, h1, h2⟩ := hV
  rw [← h2.use]
  exact use_any w g s h1
theorem newHold_any (w : World) (inc : Int) :
    Calls Try.prog 10 #[.int .i64 inc] w fun x w' => x = .returned (.pointer (some ⟨w.heap.size, 0, none⟩)) ∧ HoldV w' w.heap.size (newH inc) ∧ Below w.heap.size w w' :=
  (newHo_any w inc).mono fun _ _ h => ⟨h.1, ⟨_, h.2.1, new_hoR inc⟩, h.2.2⟩
set_option maxHeartbeats 8000000 in
theorem awake18_any (w : World) : Calls Try.prog 9 #[] w fun e w' => e = .returned (.bool true) ∧ Below w.heap.size w w' := by
  have HN := newHold_any w 1
  have S1 : Hid (∀ W g, HoldV W g awH0 → Calls Try.prog 23 #[.pointer (some ⟨g, 0, none⟩), .int .i64 0, .int .i64 1, .int .i64 0, .int .i64 2] W fun e w' => e = .returned (.int .i64 1) ∧ HoldTo W w' g awH1) := fun W g h => by
    have := item_any W g awH0 h 0 1 0 2 (by decide)
    rw [awH_1] at this
    exact this
  have S2 : Hid (∀ W g, HoldV W g awH1 → Calls Try.prog 23 #[.pointer (some ⟨g, 0, none⟩), .int .i64 0, .int .i64 1, .int .i64 0, .int .i64 2] W fun e w' => e = .returned (.int .i64 2) ∧ HoldTo W w' g awH2) := fun W g h => by
    have := item_any W g awH1 h 0 1 0 2 (by decide)
    rw [awH_2] at this
    exact this
  have S3 : Hid (∀ W g, HoldV W g awH2 → Calls Try.prog 24 #[.pointer (some ⟨g, 0, none⟩), .int .i64 5, .int .i64 1, .int .i64 0] W fun e w' => e = .returned (.bool false) ∧ HoldTo W w' g awH3) := fun W g h => by
    have := lead_any W g awH2 h awH_i2.ok 5 1 0
    rw [awH_3] at this
    exact this
  have S4 : Hid (∀ W g, HoldV W g awH3 → Calls Try.prog 23 #[.pointer (some ⟨g, 0, none⟩), .int .i64 0, .int .i64 1, .int .i64 1, .int .i64 2] W fun e w' => e = .returned (.int .i64 1) ∧ HoldTo W w' g awH4) := fun W g h => by
    have := item_any W g awH3 h 0 1 1 2 (by decide)
    rw [awH_4] at this
    exact this
  have S5 : Hid (∀ W g, HoldV W g awH4 → Calls Try.prog 24 #[.pointer (some ⟨g, 0, none⟩), .int .i64 5, .int .i64 1, .int .i64 0] W fun e w' => e = .returned (.bool true) ∧ HoldTo W w' g awH5) := fun W g h => by
    have := lead_any W g awH4 h awH_i4.ok 5 1 0
    rw [awH_5] at this
    exact this
  have S6 : Hid (∀ W g, HoldV W g awH5 → Calls Try.prog 18 #[.pointer (some ⟨g, 0, none⟩), .int .i64 7, .int .i64 3] W fun e w' => e = .returned (.bool true) ∧ w' = W) := fun W g h => by
    have := live_any W g awH5 h awH_i5.ok awH_i5.b 7 3
    rw [awH_6] at this
    exact this
  have S7 : Hid (∀ W g, HoldV W g awH5 → Calls Try.prog 18 #[.pointer (some ⟨g, 0, none⟩), .int .i64 8, .int .i64 3] W fun e w' => e = .returned (.bool false) ∧ w' = W) := fun W g h => by
    have := live_any W g awH5 h awH_i5.ok awH_i5.b 8 3
    rw [awH_7] at this
    exact this
  have S8 : Hid (∀ W g, HoldV W g awH5 → Calls Try.prog 17 #[.pointer (some ⟨g, 0, none⟩)] W fun e w' => e = .returned (.int .i64 1) ∧ w' = W) := fun W g h => by
    have := useHo_any W g awH5 h
    rw [awH_8] at this
    exact this
  have STEP : Hid (∀ g W W' h, Below w.heap.size w W → w.heap.size ≤ g → HoldTo W W' g h → Below w.heap.size w W') := fun g W W' h hb hg ht => hb.trans (ht.belowH hg hb.size)
  obtain ⟨g, hg⟩ : ∃ g, g = w.heap.size := ⟨_, rfl⟩
  have HG : Hid (w.heap.size ≤ g) := by show _ ≤ _; omega
  have HGE : Hid (g = w.heap.size) := hg
  rw [← hg] at HN
  clear hg
  go_enter Try.func9, Try.ntmps9
  go_wp2_with (go_at_call 10; refine HN.mono ?_; rintro e w1 ⟨rfl, hV1, hb1⟩; refine of_stopT ?_)
  unfold StopT
  rw [HGE.out] at hb1
  have c1 := S1.out w1 g hV1
  have B1 : Hid (Below w.heap.size w w1) := hb1
  clear hV1 hb1 HN S1
  go_wp2_with (go_at_call 23; refine c1.mono ?_; rintro e w2 ⟨rfl, t2⟩; refine of_stopT ?_)
  unfold StopT
  have c2 := S2.out w2 g t2.1
  have B2 : Hid (Below w.heap.size w w2) := STEP.out _ _ _ _ B1.out HG.out t2
  clear t2 c1 S2 B1
  go_wp2_with (go_at_call 23; refine c2.mono ?_; rintro e w3 ⟨rfl, t3⟩; refine of_stopT ?_)
  unfold StopT
  have c3 := S3.out w3 g t3.1
  have B3 : Hid (Below w.heap.size w w3) := STEP.out _ _ _ _ B2.out HG.out t3
  clear t3 c2 S3 B2
  go_wp2_with (go_at_call 24; refine c3.mono ?_; rintro e w4 ⟨rfl, t4⟩; refine of_stopT ?_)
  unfold StopT
  have c4 := S4.out w4 g t4.1
  have B4 : Hid (Below w.heap.size w w4) := STEP.out _ _ _ _ B3.out HG.out t4
  clear t4 c3 S4 B3
  go_wp2_with (go_at_call 23; refine c4.mono ?_; rintro e w5 ⟨rfl, t5⟩; refine of_stopT ?_)
  unfold StopT
  have c5 := S5.out w5 g t5.1
  have B5 : Hid (Below w.heap.size w w5) := STEP.out _ _ _ _ B4.out HG.out t5
  clear t5 c4 S5 B4
  go_wp2_with (go_at_call 24; refine c5.mono ?_; rintro e w6 ⟨rfl, t6⟩; refine of_stopT ?_)
  unfold StopT
  have c6 := S6.out w6 g t6.1
  have c7 := S7.out w6 g t6.1
  have c8 := S8.out w6 g t6.1
  have B6 : Hid (Below w.heap.size w w6) := STEP.out _ _ _ _ B5.out HG.out t6
  clear t6 c5 S6 S7 S8 B5
  go_wp2_with (first
    | (go_at_call 18; refine of_stopT ?_))
  unfold StopT
  refine c6.mono ?_
  rintro e x1 ⟨rfl, hx1⟩
  have hx1 := hx1.symm
  subst hx1
  go_wp2_with (first
    | (go_at_call 18; refine of_stopT ?_))
  unfold StopT
  refine c7.mono ?_
  rintro e x2 ⟨rfl, hx2⟩
  have hx2 := hx2.symm
  subst hx2
  go_wp2_with (go_at_call 17; refine c8.mono ?_; rintro e x3 ⟨rfl, hx3⟩; have hx3 := hx3.symm; subst hx3)
  go_ret
  exact ⟨rfl, B6.out⟩
end Go.Proofs.Ytbigifmfbibgoaa
namespace Go.Proofs.Ytbigifmfbibgoaa
open Go Go.RowKit
set_option maxRecDepth 20000

theorem countH_any (w : World) (g : Nat) (h : HoldM) (hV : HoldV w g h) (e : Int) :
    Calls Try.prog 20 #[.pointer (some ⟨g, 0, none⟩), .int .i64 e] w fun x w' => x = .returned (.tuple #[.int .i64 ((h.cnt e).1 : Int), .int .i64 (h.cnt e).2]) ∧ Below w.heap.size w w' := by
  obtain ⟨s, h1, h2⟩ := hV
  have := countHo_any w g s h1 e
  rw [h2.held e] at this
  exact this
theorem fullH_any (w : World) (g : Nat) (h : HoldM) (hV : HoldV w g h) (e : Int) :
    Calls Try.prog 22 #[.pointer (some ⟨g, 0, none⟩), .int .i64 e] w fun x w' => x = .returned (.bool (fullH h e)) ∧ Below w.heap.size w w' := by
  obtain ⟨s, h1, h2⟩ := hV
  have := fullHo_any w g s h1 e
  rw [full_held h2 e] at this
  exact this
theorem own_any (w : World) (g : Nat) (h : HoldM) (hV : HoldV w g h) :
    (Calls Try.prog 14 #[.pointer (some ⟨g, 0, none⟩)] w fun x w' => x = .returned (.int .i64 h.life) ∧ w' = w) ∧ (Calls Try.prog 15 #[.pointer (some ⟨g, 0, none⟩)] w fun x w' => x = .returned (.int .i64 h.floor) ∧ w' = w) ∧ (Calls Try.prog 16 #[.pointer (some ⟨g, 0, none⟩)] w fun x w' => x = .returned (.int .i64 h.top) ∧ w' = w) := by
  obtain ⟨s, h1, h2⟩ := hV
  rw [← h2.inc, ← h2.floor, ← h2.top]
  exact ⟨inc_any w g s h1, floor_any w g s h1, top_any w g s h1⟩
end Go.Proofs.Ytbigifmfbibgoaa
namespace Go.Proofs.Ytbigifmfbibgoaa
open Go Go.RowKit
set_option maxRecDepth 20000

/-- An operation that only reckons or reads. -/
def isRead (o : Oper) : Bool :=
  match o.op with
  | .move _ | .load _ _ | .binOp _ _ _ _ _ | .indexAddr _ _ _ | .extract _ _ | .assign _ | .fieldAddr _ _ _ | .slice _ _ _ _ _ | .nilCheck _ => true
  | _ => false

theorem read_value {P : Program} {ρ : Operand → Value} {o : Oper} (h : isRead o = true) (w : World) (nx : Next) (w' : World) (hr : (execOp ρ o).run P w = .ok nx w') : ∃ u, nx = .value u := by
  unfold isRead at h
  unfold execOp at hr
  split at h
  · rename_i x e
    simp only [e, Sem.run_pure, Result.ok.injEq] at hr
    exact ⟨_, hr.1.symm⟩
  · rename_i t x e
    simp only [e, Sem.run_bind, Sem.run_pure] at hr
    revert hr
    generalize (Instr.loadAt t (ρ x)).run P w = r
    intro hr
    cases r with
    | ok a w1 => simp only [Result.andThen_ok, Result.ok.injEq] at hr; exact ⟨_, hr.1.symm⟩
    | halt x w1 => simp [Result.andThen] at hr
  · rename_i op t x y z e
    simp only [e, Sem.run_bind, Sem.run_pure] at hr
    revert hr
    generalize ((eqGuard op t x y (ρ x) (ρ y)).run P w).andThen (fun _ w' => (binOp op t (ρ x) (ρ y)).run P w') = r
    intro hr
    cases r with
    | ok a w1 => simp only [Result.andThen_ok, Result.ok.injEq] at hr; exact ⟨_, hr.1.symm⟩
    | halt x w1 => simp [Result.andThen] at hr
  · rename_i t x y e
    simp only [e, Sem.run_bind, Sem.run_pure] at hr
    revert hr
    generalize (Instr.indexAt t (ρ x) (ρ y)).run P w = r
    intro hr
    cases r with
    | ok a w1 => simp only [Result.andThen_ok, Result.ok.injEq] at hr; exact ⟨_, hr.1.symm⟩
    | halt x w1 => simp [Result.andThen] at hr
  · rename_i x i e
    simp only [e, Sem.run_bind, Sem.run_pure] at hr
    revert hr
    generalize (Instr.extract (ρ x) i).run P w = r
    intro hr
    cases r with
    | ok a w1 => simp only [Result.andThen_ok, Result.ok.injEq] at hr; exact ⟨_, hr.1.symm⟩
    | halt x w1 => simp [Result.andThen] at hr
  · rename_i x e
    simp only [e, Sem.run_pure, Result.ok.injEq] at hr
    exact ⟨_, hr.1.symm⟩
  · rename_i t x i e
    simp only [e, Sem.run_bind, Sem.run_pure] at hr
    revert hr
    generalize (Instr.fieldAt t (ρ x) i).run P w = r
    intro hr
    cases r with
    | ok a w1 => simp only [Result.andThen_ok, Result.ok.injEq] at hr; exact ⟨_, hr.1.symm⟩
    | halt x w1 => simp [Result.andThen] at hr
  · rename_i t x lo hi mx e
    simp only [e, Sem.run_bind, Sem.run_pure] at hr
    revert hr
    generalize (Instr.sliceAt t (ρ x) (lo.map ρ) (hi.map ρ) (mx.map ρ)).run P w = r
    intro hr
    cases r with
    | ok a w1 => simp only [Result.andThen_ok, Result.ok.injEq] at hr; exact ⟨_, hr.1.symm⟩
    | halt x w1 => simp [Result.andThen] at hr
  · rename_i x e
    simp only [e] at hr
    split at hr
    case h_4 =>
      split at hr
      case h_2 =>
        rename_i nm cap0 q t0 w0 _
        simp only [Sem.run_bind] at hr
        revert hr
        generalize (program.run P w : Result Program) = r0
        intro hr
        cases r0 with
        | halt x w1 => simp [Result.andThen] at hr
        | ok a w1 =>
          rw [Result.andThen_ok] at hr
          revert hr
          generalize (nilAhead (a.types.size + Made.depth) t0 w0 _).run P w1 = r1
          intro hr
          cases r1 with
          | halt x w2 => simp [Result.andThen] at hr
          | ok b w2 =>
            rw [Result.andThen_ok] at hr
            split at hr
            · simp [unsupported, go_sem] at hr
            · simp only [Sem.run_pure, Result.ok.injEq] at hr
              exact ⟨_, hr.1.symm⟩
      all_goals first
        | (simp only [Sem.run_pure, Result.ok.injEq] at hr; exact ⟨_, hr.1.symm⟩)
        | (simp [runtimePanic, go_sem] at hr; done)
    all_goals first
      | (simp only [Sem.run_pure, Result.ok.injEq] at hr; exact ⟨_, hr.1.symm⟩)
      | (simp [runtimePanic, go_sem] at hr; done)
  · cases h

theorem yieldsIf_of_in {P : Program} {ops : Array Oper} {S : World → Prop} {o : Oper} {v : Value} {a : Act} (h : isRead o = true) (hy : YieldsIn P ops S o v a) : YieldsIf P ops S o v a := by
  rcases hy with ⟨hw, hv⟩ | hn
  · refine .inl ⟨hw, fun w hS => ?_⟩
    have hq := hv w hS
    unfold Oper.quietAt at hq
    cases hr : (execOp a.eval o).run P w with
    | ok nx w' =>
      obtain ⟨u, rfl⟩ := read_value h w nx w' hr
      rw [hr] at hq
      obtain ⟨rfl, rfl⟩ := hq
      rfl
    | halt x w' => rw [hr] at hq; exact hq.elim
  · exact .inr hn

def headFrom (md : Region.Mode) (ops : Array Oper) : Nat → Nat → Array Bool → Bool
  | 0, _, _ => true
  | f + 1, k, listed => (Region.ready md ops listed).contains k && Region.free md ops listed k && headFrom md ops f (k + 1) (listed.setIfInBounds k true)
def listedFrom : Nat → Nat → Array Bool → Array Bool
  | 0, _, l => l
  | f + 1, k, l => listedFrom f (k + 1) (l.setIfInBounds k true)

theorem reads_held {P : Program} {md : Region.Mode} {ops : Array Oper} {Q : Exit → Act → World → Prop} {S : World → Prop} {g : Nat} (hs : Region.noSelect ops = true) (hQ : ∀ d v c a w, Q (.panic c) (Act.put a d v) w → Q (.panic c) a w) (w : World) (hS : S w) :
    ∀ (l : List Oper) (k : Nat) (listed : Array Bool) (a : Act), (∀ j, j < l.length → l[j]? = ops[k + j]?) → headFrom md ops l.length k listed = true → l.all isRead = true →
      wpQuiet P ops S (fun a' => wpAnyH P md ops Q S g (listedFrom l.length k listed) a' w) l a → wpAnyH P md ops Q S (l.length + g) listed a w
  | [], _, _, _, _, _, _, h => by simpa [wpQuiet, listedFrom] using h
  | o :: l, k, listed, a, hl, hB, hr, h => by
    have h0 : ops[k]? = some o := by simpa using (hl 0 (by simp)).symm
    simp only [List.length_cons, headFrom, Bool.and_eq_true] at hB
    simp only [List.all_cons, Bool.and_eq_true] at hr
    have hst : qOp P ops S k (wpQuiet P ops S (fun a' => wpAnyH P md ops Q S g (listedFrom (o :: l).length k listed) a' w) l) a := by
      unfold qOp; simp only [h0]; exact h
    obtain ⟨v, hy, hK⟩ := yieldsIn_of_qOp h0 hst
    have ih := reads_held hs hQ w hS l (k + 1) (listed.setIfInBounds k true) (a.put o.dst v) (fun j hj => by
      have := hl (j + 1) (by simp; omega)
      simpa [Nat.add_assoc, Nat.add_comm 1 j] using this) hB.2 hr.2 hK
    rw [show (o :: l).length + g = (l.length + g) + 1 by simp; omega]
    exact wpAnyH_take h0 hs hB.1.2 hB.1.1 (fun c a w => hQ o.dst v c a w) (yieldsIf_of_in hr.1 hy) hS ih

/-- The same with a class of worlds of one's own. -/
theorem region_beginS {P : Program} {id : Nat} {Q : Exit → Act → World → Prop} {a : Act} {w : World} {lo : List Oper} (S : World → Prop) (n : Nat) (hn : lo.length = n) (hm : P.follows .mixedOrders = true)
    (h : wpAnyH P .any lo.toArray Q S n (Array.replicate n false) a w.drew) : (Code.region id lo.toArray true).wp P Q a w := by
  refine wp_region_held (S := S) hm ?_
  rw [show lo.toArray.size = n by simpa using hn]
  exact h
/-- n operations, from number k on, that only read, are taken first. -/
theorem region_reads {P : Program} {Q : Exit → Act → World → Prop} {S : World → Prop} {a : Act} {w : World} {lo : List Oper} {listed : Array Bool} (k n g : Nat) (hl : ((lo.drop k).take n).length = n) (hs : Region.noSelect lo.toArray = true)
    (hB : headFrom .any lo.toArray n k listed = true) (hr : ((lo.drop k).take n).all isRead = true) (hQ : ∀ d v c a w, Q (.panic c) (Act.put a d v) w → Q (.panic c) a w) (hS : S w)
    (h : wpQuiet P lo.toArray S (fun a' => wpAnyH P .any lo.toArray Q S g (listedFrom n k listed) a' w) ((lo.drop k).take n) a) : wpAnyH P .any lo.toArray Q S (n + g) listed a w := by
  have := reads_held (P := P) (md := .any) (Q := Q) (g := g) hs hQ w hS ((lo.drop k).take n) k listed a (fun j hj => by
    rw [hl] at hj
    rw [List.getElem?_take_of_lt hj, List.getElem?_drop]
    simp) (by rw [hl]; exact hB) hr (by rw [hl]; exact h)
  rwa [hl] at this
theorem wpOp_wanted {P : Program} {ops : Array Oper} {Q : Exit → Act → World → Prop} {i : Nat} {o : Oper} {K : Act → World → Prop} {a : Act} {w : World} (hi : ops[i]? = some o) (hw : Region.wanted o (yielded ops a.tmps) = true) (h : o.wp P a w K Q) : wpOp P ops Q i K a w := by
  unfold Go.wpOp
  simp only [hi, hw, if_true]
  exact .inl h
theorem wpOp_call {ops : Array Oper} {Q : Exit → Act → World → Prop} {i : Nat} {o : Oper} {K : Act → World → Prop} {a : Act} {w : World} (hi : ops[i]? = some o) (hw : Region.wanted o (yielded ops a.tmps) = true) (f : FuncId) (xs : Array Operand)
    (hf : ∀ (b : Act) (w : World), (execOp b.eval o).run Try.prog w = .ok (.enter f (xs.map b.eval)) w) (vs : Array Value) (hvs : xs.toList.map a.eval = vs.toList)
    (D : Value → World → Prop) (h : Calls Try.prog f vs w fun e w' => ∃ v, e = .returned v ∧ D v w') (d : Option Tmp) (hd : o.dst = d) (hK : ∀ v w', D v w' → K (a.put d v) w') : wpOp Try.prog ops Q i K a w := by
  subst hd
  refine wpOp_wanted hi hw ?_
  unfold Oper.wp
  rw [hf a w, show xs.map a.eval = vs from Array.ext' (by rw [Array.toList_map]; exact hvs)]
  refine h.mono ?_
  rintro e w' ⟨v, rfl, hc⟩
  exact hK v w' hc
end Go.Proofs.Ytbigifmfbibgoaa
namespace Go.Proofs.Ytbigifmfbibgoaa
open Go Go.RowKit
set_option maxRecDepth 20000

/-! A drawn region whose last operations are quiet (calls too), from the place on where a call has changed memory. -/
theorem region_cutG {P : Program} {c : Code} {Q : Exit → Act → World → Prop} {a : Act} {w : World} (h : c.wp P (fun e a' w' => e = .normal ∧ Q .normal a' w') a w) : c.wp P Q a w :=
  Code.wp_mono (by rintro e a' w' ⟨rfl, h⟩; exact h) h
theorem wpAnyH_of_quiet {P : Program} {md : Region.Mode} {ops : Array Oper} {C S : World → Prop} {Q : Act → Prop} {Q' : Exit → Act → World → Prop} (hCS : ∀ w, C w → S w) (hQ : ∀ a w, C w → Q a → Q' .normal a w) : ∀ (fuel : Nat) (listed : Array Bool) (a : Act) (w : World), C w →
    wpAnyQ P md ops C Q fuel listed a → wpAnyH P md ops Q' S fuel listed a w
  | 0, _, _, _, hw, h => ⟨h.1, hQ _ _ hw h.2⟩
  | fuel + 1, _, _, _, hw, h => ⟨fun h0 => hQ _ _ hw (h.1 h0), fun i hi => wpOp_of_qOp hw (fun a' w' hw' hk => ⟨hCS w' hw', wpAnyH_of_quiet hCS hQ fuel _ a' w' hw' hk⟩) (h.2 i hi)⟩
theorem region_rest {P : Program} {Q' : Exit → Act → World → Prop} {S C : World → Prop} {a : Act} {w : World} {lo : List Oper} {listed : Array Bool} (k n : Nat) (hl : (lo.drop k).length = n) (hs : Region.noSelect lo.toArray = true) (hB : Region.lexFrom .any lo.toArray n k listed = true)
    (hC : C w) (hCS : ∀ w', C w' → S w') (h : wpQuiet P lo.toArray C (fun a' => ∀ w', C w' → Q' .normal a' w') (lo.drop k) a) : wpAnyH P .any lo.toArray Q' S n listed a w := by
  have := wpAnyQ_lex (P := P) (C := C) (md := .any) hs (lo.drop k) k listed a (fun j => by rw [List.getElem?_drop]; simp) (by rw [hl]; exact hB) h
  rw [hl] at this
  exact wpAnyH_of_quiet hCS (fun a' w' hw' hq => hq w' hw') n listed a w hC this
end Go.Proofs.Ytbigifmfbibgoaa
