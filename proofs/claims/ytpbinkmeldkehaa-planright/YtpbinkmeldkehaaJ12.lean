import Derived.Test.YtpbinkmeldkehaaJ11
import Derived.Test.YtpbinkmeldkehaaJ5
import Derived.Test.YtpbinkmeldkehaaJ4
namespace Go.Proofs.Ytpbinkmeldkehaa
open Go Go.Lib Go.RowKit Go.Sort Go.Shelf
set_option maxRecDepth 20000

def fillP (L : List Value) (z : Value) (k : Nat) : List Value := L.take k ++ List.replicate (L.length - k) z
theorem fill_zero (L : List Value) (z : Value) : fillP L z 0 = List.replicate L.length z := by unfold fillP; simp
theorem fill_all (L : List Value) (z : Value) : fillP L z L.length = L := by unfold fillP; simp
theorem fill_succ (L : List Value) (z u : Value) (k : Nat) (h : L[k]? = some u) : fillP L z (k + 1) = (fillP L z k).set k u := by
  have hk := (List.getElem?_eq_some_iff.1 h).1
  unfold fillP
  have hl : (L.take k).length = k := by rw [List.length_take]; omega
  rw [List.set_append_right _ _ (by omega), hl, Nat.sub_self, List.take_add_one, h]
  obtain ⟨m, hm⟩ : ∃ m, L.length - k = m + 1 := ⟨L.length - k - 1, by omega⟩
  rw [hm, show L.length - (k + 1) = m by omega]
  simp [List.replicate_succ]
set_option maxHeartbeats 8000000 in
set_option maxRecDepth 100000 in
/-- deal.falling. -/
theorem falling_any (z : List Int) (hn : z.length ≤ 1000) (v : Value) (w : World) (hL : ISl w v z) :
    Calls Try.prog 43 #[v] w fun e w' => ∃ v' o, e = .returned v' ∧ IsOrd (keyZ z) z.length o ∧ VOwn 3 w.heap.size w' v' (inV o) ∧ Below w.heap.size w w' := by
  obtain ⟨ov, cap, rfl, hc1, hc2⟩ := hL.slice
  unfold maxLen at hc2
  obtain ⟨f, hf⟩ : ∃ f, f = Value.slice ov z.length cap := ⟨_, rfl⟩
  have HS : Hid (∀ W, Below w.heap.size w W → W.heap[w.heap.size]? = some (.cells #[f] 28 (0, 0)) → VOwn 3 w.heap.size W (.slice (some ⟨w.heap.size + 1, 0, none⟩) z.length z.length) (inV (List.range z.length)) → Calls Try.prog 53 #[.slice (some ⟨w.heap.size + 1, 0, none⟩) z.length z.length, .func (.func 54) #[] #[.pointer (some ⟨w.heap.size, 0, none⟩)]] W fun e w' => e = .returned (.tuple #[]) ∧ ∃ o, IsOrd (keyZ z) z.length o ∧ VOwn 3 w.heap.size w' (.slice (some ⟨w.heap.size + 1, 0, none⟩) z.length z.length) (inV o) ∧ W.grownBy w' (some (w.heap.size + 1))) := fun W hb hd ho => by
    refine sort13_any z hn f w.heap.size w.heap.size (w.heap.size + 1) W _ (0, 0) ho hd (by omega) (by rw [hf]; exact VSl.below hL hb) (fun h0 b hvb e => ?_)
    subst e
    rw [hf] at hvb
    obtain ⟨g, off, x, cur, t, fr, rfl, h5, _⟩ := ISl.at hL 0 h0
    have e1 : g = w.heap.size + 1 := by simpa [Value.ownBlock] using hvb
    have e2 := (Array.getElem?_eq_some_iff.1 h5).1
    omega
  obtain ⟨n, hn0⟩ : ∃ n, n = z.length := ⟨_, rfl⟩
  rw [← hn0] at HS hn hf hc1 ⊢
  have HP : Hid ((inV (List.range n)).length = n ∧ ∀ k, k < n → (inV (List.range n))[k]? = some (Value.int .i64 (k : Int))) := ⟨by rw [inV_len]; simp, fun k hk => inV_range_at n k hk⟩
  have hc1' : f.cells = #[f] := by rw [hf]; rfl
  have FE : Hid (f = Value.slice ov n cap) := hf
  have R0 : Hid ((w.alloc (.cells #[f] 28)).heap[w.heap.size]? = some (.cells #[f] 28 (0, 0))) := heap_new _ _ _ rfl
  have B0 : Hid (Below w.heap.size w (w.alloc (.cells #[f] 28))) := (Below.refl _ _).alloc (Nat.le_refl _) _
  have c0 : (w.alloc (.cells #[f] 28)).cell? ⟨w.heap.size, 0, none⟩ = some f := by rw [cell_of_row _ _ _ _ _ _ R0.out]; rfl
  clear hn0 hL
  generalize inV (List.range n) = L at HP HS
  subst hf
  go_enter Try.func43, Try.ntmps43
  go_wp2_with (refine wl_makeV scI rfl _ _ rfl n rfl rfl (by omega) ?_; intro w1 ho hb)
  simp only [World.size_alloc] at ho hb ⊢
  have HO : Hid (VOwn 3 w.heap.size w1 (.slice (some ⟨w.heap.size + 1, 0, none⟩) n n) (fillP L (.int .i64 0) 0)) := by
    show VOwn _ _ _ _ _
    rw [fill_zero, HP.out.1]; exact ho.base (by omega)
  have hb' : Below (w.alloc (.cells #[.slice ov n cap] 28)).heap.size (w.alloc (.cells #[.slice ov n cap] 28)) w1 := by simpa only [World.size_alloc] using hb
  have HB : Hid (Below w.heap.size w w1) := B0.out.trans (hb'.mono (by simp))
  have HR : Hid (w1.heap[w.heap.size]? = some (.cells #[.slice ov n cap] 28 (0, 0))) := (hb'.block w.heap.size (by simp)).trans R0.out
  clear ho hb hb' B0 R0 c0
  go_loopw [10] (fun i wr => ∃ k : Nat, k ≤ n ∧ i = .int .i64 (k : Int) ∧ VOwn 3 w.heap.size wr (.slice (some ⟨w.heap.size + 1, 0, none⟩) n n) (fillP L (.int .i64 0) k) ∧ Below w.heap.size w wr ∧ wr.heap[w.heap.size]? = some (.cells #[.slice ov n cap] 28 (0, 0))) (fun i _ => n - (intOf i).toNat)
  case atStart => exact ⟨0, Nat.zero_le _, rfl, HO.out, HB.out, HR.out⟩
  case round =>
    clear HO HB HR
    obtain ⟨k, hk, rfl, ho, hb, hr⟩ := hrel
    have HO : Hid (VOwn 3 w.heap.size wr (.slice (some ⟨w.heap.size + 1, 0, none⟩) n n) (fillP L (.int .i64 0) k)) := ho
    have HB : Hid (Below w.heap.size w wr) := hb
    have HR : Hid (wr.heap[w.heap.size]? = some (.cells #[.slice ov n cap] 28 (0, 0))) := hr
    by_cases hlt : k < n
    · have hlt' : (k : Int) < (n : Int) := by omega
      obtain ⟨cc, hcc, _, hfr⟩ := ho.cell k hlt
      have NO : Hid (VOwn 3 w.heap.size (wr.setCell ⟨w.heap.size + 1, k, none⟩ (.int .i64 (k : Int))) (.slice (some ⟨w.heap.size + 1, 0, none⟩) n n) (fillP L (.int .i64 0) (k + 1))) := by
        show VOwn _ _ _ _ _
        rw [fill_succ L _ _ k (HP.out.2 k hlt)]; exact ho.set k _
      have hgr := ho.setBelow k (.int .i64 (k : Int))
      have NB : Hid (Below w.heap.size w (wr.setCell ⟨w.heap.size + 1, k, none⟩ (.int .i64 (k : Int)))) := hb.grown hgr hb.size (fun j hj => by cases hj; omega)
      have NR : Hid ((wr.setCell ⟨w.heap.size + 1, k, none⟩ (.int .i64 (k : Int))).heap[w.heap.size]? = some (.cells #[.slice ov n cap] 28 (0, 0))) := (hgr.block _ (Array.getElem?_eq_some_iff.1 hr).1 (fun e => by simp at e)).trans hr
      clear ho hb hr hgr
      go_wp2_with fail
      go_roundw
      case rel => exact ⟨k + 1, by omega, by go_num, NO.out, NB.out, NR.out⟩
      case measure => simp [intOf]; omega
    · have hlt' : ¬ (k : Int) < (n : Int) := by omega
      obtain rfl : k = n := by omega
      have hO := HO.out
      rw [← HP.out.1, fill_all, HP.out.1] at hO
      have HC := HS.out wr HB.out HR.out hO
      have HC' : Hid _ := HC
      clear ho hb hr hO HC HS HO HR
      go_wp2_with (go_at_call 53; refine Calls.mono HC'.out ?_; rintro e w' ⟨rfl, o, ho, hv, hg⟩)
      go_ret
      exact ⟨_, o, rfl, ho, hv, HB.out.grown hg HB.out.size (fun j hj => by cases hj; omega)⟩
end Go.Proofs.Ytpbinkmeldkehaa
namespace Go.Proofs.Ytpbinkmeldkehaa
open Go Go.Lib Go.RowKit
set_option maxRecDepth 20000

/-! deal.Loads. -/
def pairV (p : Int × Int) : Array Value := #[.int .i64 p.1, .int .i64 p.2]
def PairE : El := ⟨75, 71, 2, 16, #[.int .i64 0, .int .i64 0]⟩
theorem PairOk : PairE.Ok := ⟨Try.underlying71, ⟨_, Try.underlying75, rfl⟩, by kernel_rfl, by decide, by decide, by decide, by decide⟩
abbrev PairsAt (w : World) (v : Value) (l : List (Int × Int)) : Prop := GSl PairE pairV w v l
end Go.Proofs.Ytpbinkmeldkehaa
namespace Go.Proofs.Ytpbinkmeldkehaa
open Go Go.Lib Go.RowKit
set_option maxRecDepth 20000

/-! Pairs in a row of one's own. -/
def POwn (B : Nat) (w : World) (v : Value) (l : List (Int × Int)) : Prop := w.ownsRow B 75 2 v l.length (gcells pairV l)
theorem POwn.at_ {B : Nat} {w : World} {v : Value} {l : List (Int × Int)} (h : POwn B w v l) : PairsAt w v l := gsl_of (E := PairE) h fun _ _ => rfl
theorem gcells_set : ∀ (l : List (Int × Int)) (i : Nat) (a b : Int), i < l.length → ((gcells pairV l).set (i * 2) (.int .i64 a)).set (i * 2 + 1) (.int .i64 b) = gcells pairV (l.set i (a, b))
  | p :: l, 0, a, b, _ => by simp [gcells, pairV]
  | p :: l, i + 1, a, b, h => by
    have ih := gcells_set l i a b (by simpa using h)
    rw [gcells_cons, List.set_cons_succ, gcells_cons, ← ih]
    rw [show (i + 1) * 2 = (pairV p).toList.length + i * 2 by simp [pairV]; omega, List.set_append_right _ _ (by omega)]
    rw [show (pairV p).toList.length + i * 2 + 1 = (pairV p).toList.length + (i * 2 + 1) by omega, List.set_append_right _ _ (by omega)]
    rw [Nat.add_sub_cancel_left, Nat.add_sub_cancel_left]
theorem gcells_len2 (l : List (Int × Int)) : (gcells pairV l).length = l.length * 2 := by
  induction l with
  | nil => rfl
  | cons p l ih => rw [gcells_cons, List.length_append, ih]; simp [pairV]; omega
theorem POwn.set {B : Nat} {w : World} {g n cap : Nat} {l : List (Int × Int)} (h : POwn B w (.slice (some ⟨g, 0, none⟩) n cap) l) (hn : n = l.length) (i : Nat) (hi : i < n) (a b : Int) :
    POwn B ((w.setCell ⟨g, i * 2, none⟩ (.int .i64 a)).setCell ⟨g, i * 2 + 1, none⟩ (.int .i64 b)) (.slice (some ⟨g, 0, none⟩) n cap) (l.set i (a, b)) ∧ w.grownBy ((w.setCell ⟨g, i * 2, none⟩ (.int .i64 a)).setCell ⟨g, i * 2 + 1, none⟩ (.int .i64 b)) (some g) := by
  subst hn
  unfold POwn at h ⊢
  obtain ⟨h1, h2⟩ := World.ownsRow.stored h (i * 2) (.int .i64 a)
  obtain ⟨h3, h4⟩ := World.ownsRow.stored h1 (i * 2 + 1) (.int .i64 b)
  rw [List.length_set, ← gcells_set l i a b hi]
  refine ⟨h3, ⟨h4.os.trans h2.os, h4.tape.trans h2.tape, h4.output.trans h2.output, Nat.le_trans h2.size h4.size, fun j hj hne => (h4.block j (Nat.lt_of_lt_of_le hj h2.size) hne).trans (h2.block j hj hne)⟩⟩
theorem POwn.cell {B : Nat} {w : World} {g n cap : Nat} {l : List (Int × Int)} (h : POwn B w (.slice (some ⟨g, 0, none⟩) n cap) l) (i : Nat) (hi : i < n) : ∃ p, l[i]? = some p ∧ w.cell? ⟨g, i * 2, none⟩ = some (.int .i64 p.1) ∧ w.cell? ⟨g, i * 2 + 1, none⟩ = some (.int .i64 p.2) ∧ (∀ k, w.frozen? ⟨g, k, none⟩ = false) := by
  obtain ⟨g', off, cur, t, fr, p, e, hg, hc, hp⟩ := (POwn.at_ h).at i hi
  simp only [Option.some.injEq, Addr.mk.injEq, and_true] at e
  obtain ⟨rfl, rfl⟩ := e
  refine ⟨p, hp, ?_, ?_, ?_⟩
  · rw [cell_of_row _ _ _ _ _ _ hg]; have := hc 0 (by show 0 < 2; omega); rw [Nat.zero_add] at this; exact this
  · rw [cell_of_row _ _ _ _ _ _ hg]; have := hc 1 (by show 1 < 2; omega); rw [Nat.zero_add] at this; exact this
  · intro k
    obtain ⟨_, ⟨e, _⟩ | ⟨g', cap', cur', e, _, hcur, _⟩⟩ := h
    · cases e
    · simp only [Value.slice.injEq, Option.some.injEq, Addr.mk.injEq, and_true] at e
      obtain ⟨⟨rfl, _⟩, _⟩ := e
      simp [World.frozen?, hcur]
theorem made_pairs (n : Nat) : (madeCells #[.int .i64 0, .int .i64 0] (n * 2)).toList = gcells pairV (List.replicate n (0, 0)) := by
  apply List.ext_getElem?
  intro j
  have hl : (gcells pairV (List.replicate n ((0, 0) : Int × Int))).length = n * 2 := by rw [gcells_len2, List.length_replicate]
  rcases Nat.lt_or_ge j (n * 2) with hj | hj
  · have h1 : (madeCells #[.int .i64 0, .int .i64 0] (n * 2)).toList[j]? = some (.int .i64 0) := by
      rcases (show j % 2 = 0 ∨ j % 2 = 1 by omega) with h | h <;> simp [madeCells, hj, h]
    have h2 : ∀ c ∈ gcells pairV (List.replicate n ((0, 0) : Int × Int)), c = Value.int .i64 0 := fun c hc => by
      unfold gcells at hc
      obtain ⟨p, hp, hc2⟩ := List.mem_flatMap.1 hc
      rw [(List.mem_replicate.1 hp).2] at hc2
      simpa [pairV] using hc2
    rw [h1, List.getElem?_eq_getElem (by omega), h2 _ (List.getElem_mem _)]
  · rw [List.getElem?_eq_none (by simpa [size_madeCells] using hj), List.getElem?_eq_none (by omega)]
theorem wl_makeP {ops : Array Oper} {rest : List Oper} {o : Oper} {a : Act} {w : World} {Q : Exit → Act → World → Prop} (hgd : o.guard = none) (x y : Operand) (ho : o.op = .makeSlice 71 x y)
    (n : Nat) (hx : a.eval x = .int .i64 (n : Int)) (hy : a.eval y = .int .i64 (n : Int)) (hn : n ≤ 1000000)
    (h : ∀ w', POwn w.heap.size w' (.slice (some ⟨w.heap.size, 0, none⟩) n n) (List.replicate n (0, 0)) → Below w.heap.size w w' → wpList Try.prog ops Q rest (a.put o.dst (.slice (some ⟨w.heap.size, 0, none⟩) n n)) w') : wpList Try.prog ops Q (o :: rest) a w := by
  obtain ⟨i, hi, hz, h1, h2⟩ := PairOk.info
  refine wpList_plain hgd fun K hK => ?_
  obtain ⟨w', hr, hown, hgr⟩ := run_make_full (P := Try.prog) w w.heap.size 71 75 i (.agg #[.int .i64 0, .int .i64 0]) 2 Try.underlying71 hi hz h1 .i64 .i64 n (by rw [h2]; show 16 * n ≤ _; omega) (by unfold maxLen; omega) (Nat.le_refl _)
  unfold Oper.wp execOp
  simp only [ho, hx, hy, hr, Sem.run_bind, Sem.run_pure, Result.andThen_ok]
  refine hK _ _ (h w' ?_ ((Below.refl _ _).grown hgr (Nat.le_refl _) fun k hk => by cases hk))
  unfold POwn
  rw [List.length_replicate, ← made_pairs]
  exact hown
end Go.Proofs.Ytpbinkmeldkehaa
namespace Go.Proofs.Ytpbinkmeldkehaa
open Go Go.RowKit
set_option maxRecDepth 20000

/-- One operation of a drawn region, by the laws for a list of them. -/
theorem wpOp_of_list {P : Program} {ops : Array Oper} {Q : Exit → Act → World → Prop} {i : Nat} {o : Oper} {K : Act → World → Prop} {a : Act} {w : World} (hi : ops[i]? = some o)
    (h : wpList P ops (fun e a' w' => match e with | .normal => K a' w' | e => Q e a' w') [o] a w) : wpOp P ops Q i K a w := by
  unfold Go.wpOp
  simp only [hi]
  unfold wpList at h
  by_cases hw : Region.wanted o (yielded ops a.tmps) = true
  · rw [if_pos hw] at h ⊢
    rcases h with h | h
    · refine .inl ?_
      unfold Oper.wp at h ⊢
      revert h
      generalize (execOp a.eval o).run P w = r
      intro h
      unfold Oper.upon at h ⊢
      split at h
      · exact h
      · exact h
      · exact h
      · refine h.mono ?_
        intro e w1 h1
        cases e <;> exact h1
      · exact h
      · exact h
      · exact h.elim
    · exact .inr h
  · rw [if_neg hw] at h ⊢
    exact h
theorem eval_put (a : Act) (k j : Nat) (v : Value) (hk : k < a.tmps.size) : (a.put (some k) v).eval (.tmp j) = if j = k then v else a.eval (.tmp j) := by
  simp only [Act.eval, Act.put, Array.getElem?_setIfInBounds, Array.getD_eq_getD_getElem?]
  by_cases h : j = k
  · subst h; simp [hk]
  · simp [h, Ne.symm h]
theorem size_put (a : Act) (d : Option Tmp) (v : Value) : (a.put d v).tmps.size = a.tmps.size := by
  cases d <;> simp [Act.put]
theorem load_cell {ty e : TypeId} (hu : Try.prog.underlying ty = some (.slice e)) (W : World) (ad : Addr) (v : Value) (h : W.cell? ad = some v) : (Instr.loadAt ty (.pointer (some ad))).run Try.prog W = .ok v W := by
  have ha : (isAgg ty).run Try.prog W = .ok false W := by unfold isAgg; rw [Sem.run_bind, run_underlying hu W]; simp [go_sem]
  simp [Instr.loadAt, Instr.sureAddr, loadVar, Sem.run_bind, ha, go_sem, h]
/-- One operation whose value is known. -/
theorem wpOp_val {ops : Array Oper} {Q : Exit → Act → World → Prop} {i : Nat} {o : Oper} {K : Act → World → Prop} {a : Act} {w w' : World} (hi : ops[i]? = some o) (hw : Region.wanted o (yielded ops a.tmps) = true) (v : Value)
    (hx : (execOp a.eval o).run Try.prog w = .ok (.value v) w') (d : Option Tmp) (hd : o.dst = d) (hK : K (a.put d v) w') : wpOp Try.prog ops Q i K a w := by
  subst hd
  refine wpOp_wanted hi hw ?_
  unfold Oper.wp
  rw [hx]
  exact hK
theorem wpOp_callQ {ops : Array Oper} {Q : Exit → Act → World → Prop} {i : Nat} {o : Oper} {K : Act → World → Prop} {a : Act} {w : World} (hi : ops[i]? = some o) (hw : Region.wanted o (yielded ops a.tmps) = true) (f : FuncId) (vs : Array Value)
    (hf : (execOp a.eval o).run Try.prog w = .ok (.enter f vs) w) (D : Ending → World → Prop) (h : Calls Try.prog f vs w D) (d : Option Tmp) (hd : o.dst = d) (hK : ∀ v w', D (.returned v) w' → K (a.put d v) w') (hP : ∀ ch w', D (.panicked ch) w' → Q (.panic ch) a w') (hO : ∀ w', ¬ D .outgrown w') : wpOp Try.prog ops Q i K a w := by
  subst hd
  refine wpOp_wanted hi hw ?_
  unfold Oper.wp
  rw [hf]
  refine h.mono ?_
  intro e w' hD
  cases e with
  | returned v => exact hK v w' hD
  | panicked ch => exact hP ch w' hD
  | outgrown => exact absurd hD (hO w')

theorem run_fieldOp {o : Oper} {t i : Nat} {x : Operand} (ho : o.op = .fieldAddr t x i) (a : Act) (W : World) (v : Value) (h : (Instr.fieldAt t (a.eval x) i).run Try.prog W = .ok v W) : (execOp a.eval o).run Try.prog W = .ok (.value v) W := by
  unfold execOp
  simp only [ho, Sem.run_bind, h, Result.andThen_ok, Sem.run_pure]
theorem run_moveOp {o : Oper} {x : Operand} (ho : o.op = .move x) (a : Act) (W : World) (v : Value) (h : a.eval x = v) : (execOp a.eval o).run Try.prog W = .ok (.value v) W := by
  unfold execOp
  simp only [ho, Sem.run_pure, h]
theorem run_loadOp {o : Oper} {t : Nat} {x : Operand} (ho : o.op = .load t x) (a : Act) (W : World) (u v : Value) (hu : a.eval x = u) (h : (Instr.loadAt t u).run Try.prog W = .ok v W) : (execOp a.eval o).run Try.prog W = .ok (.value v) W := by
  unfold execOp
  simp only [ho, Sem.run_bind, hu, h, Result.andThen_ok, Sem.run_pure]
end Go.Proofs.Ytpbinkmeldkehaa
namespace Go.Proofs.Ytpbinkmeldkehaa
open Go Go.RowKit
set_option maxRecDepth 20000

/-- What holds at each moment of a drawn region: all that has come up has a value as is told; all other slots are as they were. -/
structure InvR (ops : Array Oper) (V : Nat → Value → World → Prop) (D : List Nat) (a0 : Act) (w0 : World) (listed : Array Bool) (a : Act) (w : World) : Prop where
  below : Below w0.heap.size w0 w
  size : a.tmps.size = a0.tmps.size
  defers : a.defers = a0.defers
  other : ∀ d, d ∉ D → a.eval (.tmp d) = a0.eval (.tmp d)
  has : ∀ j o d, ops[j]? = some o → o.dst = some d → listed.getD j false = true → V j (a.eval (.tmp d)) w
/-- What an operation finds when it comes up. -/
structure AtOp (ops : Array Oper) (V : Nat → Value → World → Prop) (D : List Nat) (a0 : Act) (w0 : World) (o : Oper) (a : Act) (w : World) : Prop where
  below : Below w0.heap.size w0 w
  size : a.tmps.size = a0.tmps.size
  defers : a.defers = a0.defers
  other : ∀ d, d ∉ D → a.eval (.tmp d) = a0.eval (.tmp d)
  has : ∀ e ∈ o.after, Region.binds .any e = true → ∀ oj d, ops[e.on]? = some oj → oj.dst = some d → V e.on (a.eval (.tmp d)) w
theorem dst_apart {ops : Array Oper} {D : List Nat} (hD : (ops.toList.filterMap (·.dst)) = D) (hnd : D.Nodup) {i j : Nat} {oi oj : Oper} {d : Nat} (hi : ops[i]? = some oi) (hj : ops[j]? = some oj) (di : oi.dst = some d) (dj : oj.dst = some d) : i = j := by
  subst hD
  rw [List.nodup_iff_pairwise_ne, List.pairwise_filterMap] at hnd
  rw [← Array.getElem?_toList] at hi hj
  obtain ⟨hi1, hi2⟩ := List.getElem?_eq_some_iff.1 hi
  obtain ⟨hj1, hj2⟩ := List.getElem?_eq_some_iff.1 hj
  rw [List.pairwise_iff_getElem] at hnd
  rcases Nat.lt_trichotomy i j with h | h | h
  · exact absurd rfl (hnd i j hi1 hj1 h d (by rw [hi2]; exact di) d (by rw [hj2]; exact dj))
  · exact h
  · exact absurd rfl (hnd j i hj1 hi1 h d (by rw [hj2]; exact dj) d (by rw [hi2]; exact di))
theorem falses_set (l : Array Bool) (i : Nat) (h : l.getD i true = false) : (l.setIfInBounds i true).toList.count false + 1 = l.toList.count false := by
  have hi : i < l.size := by
    rw [Array.getD_eq_getD_getElem?] at h
    rcases Nat.lt_or_ge i l.size with h1 | h1
    · exact h1
    · rw [Array.getElem?_eq_none h1] at h; simp at h
  have hv : l[i] = false := by
    rw [Array.getD_eq_getD_getElem?, Array.getElem?_eq_getElem hi] at h
    simpa using h
  rw [Array.toList_setIfInBounds]
  have hi' : i < l.toList.length := by simpa using hi
  have e : l.toList = l.toList.take i ++ false :: l.toList.drop (i + 1) := by
    have := List.drop_eq_getElem_cons hi'
    rw [show l.toList[i] = false by simpa using hv] at this
    rw [← this, List.take_append_drop]
  rw [List.set_eq_take_append_cons_drop, if_pos hi', e]
  have e2 : (l.toList.take i ++ false :: l.toList.drop (i + 1)).take i = l.toList.take i := by rw [← e]
  have e3 : (l.toList.take i ++ false :: l.toList.drop (i + 1)).drop (i + 1) = l.toList.drop (i + 1) := by rw [← e]
  rw [e2, e3, List.count_append, List.count_append, List.count_cons, List.count_cons]
  simp
  omega
theorem ready_none {md : Region.Mode} {ops : Array Oper} {l : Array Bool} (h : l.toList.count false = 0) : Region.ready md ops l = [] := by
  rw [List.eq_nil_iff_forall_not_mem]
  intro j hj
  have h1 := (mem_ready.1 hj).1
  rw [Array.getD_eq_getD_getElem?] at h1
  rcases Nat.lt_or_ge j l.size with h2 | h2
  · rw [Array.getElem?_eq_getElem h2] at h1
    have h3 : l[j] = false := by simpa using h1
    have : false ∈ l.toList := by rw [← h3]; exact Array.mem_toList_iff.2 (Array.getElem_mem h2)
    have := List.count_pos_iff.2 this
    omega
  · rw [Array.getElem?_eq_none h2] at h1; simp at h1
theorem getD_tf {l : Array Bool} {j : Nat} (h : l.getD j true = false) : l.getD j false = false := by
  rw [Array.getD_eq_getD_getElem?] at h ⊢
  rcases Nat.lt_or_ge j l.size with h2 | h2
  · rw [Array.getElem?_eq_getElem h2] at h ⊢; simpa using h
  · rw [Array.getElem?_eq_none h2]; rfl
theorem getD_set_ne' {l : Array Bool} {i j : Nat} (h : i ≠ j) (b c : Bool) : (l.setIfInBounds i b).getD j c = l.getD j c := by
  rw [Array.getD_eq_getD_getElem?, Array.getD_eq_getD_getElem?, Array.getElem?_setIfInBounds_ne h]
theorem ready_some {ops : Array Oper} {l : Array Bool} (hs : l.size = ops.size) (hdag : ∀ (i : Nat) (o : Oper), ops[i]? = some o → ∀ e ∈ o.after, e.on < i) : ∀ j, l.getD j true = false → Region.ready .any ops l ≠ [] := by
  intro j
  induction j using Nat.strongRecOn with
  | ind j ih =>
    intro hj hr
    have hjl : j < l.size := by
      rw [Array.getD_eq_getD_getElem?] at hj
      rcases Nat.lt_or_ge j l.size with h1 | h1
      · exact h1
      · rw [Array.getElem?_eq_none h1] at hj; simp at hj
    have ho : ops[j]? = some (ops[j]'(by omega)) := Array.getElem?_eq_getElem (by omega)
    by_cases hall : ∀ e ∈ (ops[j]'(by omega)).after, Region.binds .any e = true → l.getD e.on false = true
    · have : j ∈ Region.ready .any ops l := mem_ready.2 ⟨hj, _, ho, hall⟩
      rw [hr] at this
      simp at this
    · simp only [Classical.not_forall] at hall
      obtain ⟨e, he, hb, hl⟩ := hall
      have hlt := hdag j _ ho e he
      refine ih e.on hlt ?_ hr
      rw [Array.getD_eq_getD_getElem?, Array.getElem?_eq_getElem (by omega)] at hl ⊢
      simpa using hl
/-- A drawn region whose last operation waits for all others, and whose others make memory at most: in whatever order they come up, each finds what it waits for. -/
theorem region_inv {P : Program} {id : Nat} {Q : Exit → Act → World → Prop} {a0 : Act} {w0 : World} {lo : List Oper} (n : Nat) (V : Nat → Value → World → Prop) (D : List Nat) (hm : P.follows .mixedOrders = true)
    (hn : lo.length = n + 1) (hD : (lo.filterMap (·.dst)) = D) (hnd : D.Nodup) (hsz : ∀ d ∈ D, d < a0.tmps.size) (hdag : (lo.zipIdx.all fun x => x.1.after.all fun e => decide (e.on < x.2)) = true)
    (hlast : (lo[n]?).map (fun o => (List.range n).all fun j => o.after.any fun e => e.on == j && Region.binds .any e) = some true)
    (hV : ∀ j v w w', V j v w → Below w.heap.size w w' → V j v w')
    (hop : ∀ i o, lo[i]? = some o → i < n → ∀ a w, AtOp lo.toArray V D a0 w0.drew o a w → wpOp P lo.toArray Q i (fun a' w' => ∃ v, a' = a.put o.dst v ∧ Below w.heap.size w w' ∧ ∀ d, o.dst = some d → V i v w') a w)
    (hend : ∀ a w, Below w0.heap.size w0 w → a.tmps.size = a0.tmps.size → a.defers = a0.defers → (∀ d, d ∉ D → a.eval (.tmp d) = a0.eval (.tmp d)) → (∀ j o d, j < n → lo[j]? = some o → o.dst = some d → V j (a.eval (.tmp d)) w) → wpOp P lo.toArray Q n (fun a' w' => Q .normal a' w') a w) : (Code.region id lo.toArray true).wp P Q a0 w0 := by
  refine wp_region_any hm ?_
  have hdag' : ∀ (i : Nat) (o : Oper), lo.toArray[i]? = some o → ∀ e ∈ o.after, e.on < i := fun i o ho e he => by
    rw [List.all_eq_true] at hdag
    have ho' : lo[i]? = some o := by simpa using ho
    obtain ⟨hi, rfl⟩ := List.getElem?_eq_some_iff.1 ho'
    have := hdag (lo[i], i) (List.mem_zipIdx_iff_getElem?.2 (List.getElem?_eq_getElem hi))
    simp only [Array.all_eq_true_iff_forall_mem] at this
    simpa using this e he
  have hnd' := hnd
  have hDa : (lo.toArray.toList.filterMap (·.dst)) = D := by simpa using hD
  have inD : ∀ (i : Nat) (o : Oper) (d : Nat), lo.toArray[i]? = some o → o.dst = some d → d ∈ D := fun i o d ho hd => by
    rw [← hD, List.mem_filterMap]
    exact ⟨o, List.mem_of_getElem? (by simpa using ho), hd⟩
  have key : ∀ (f : Nat) (listed : Array Bool) (a : Act) (w : World), listed.toList.count false = f → listed.size = n + 1 → listed.getD n true = false → InvR lo.toArray V D a0 w0.drew listed a w → wpAny P .any lo.toArray Q f listed a w := by
    intro f
    induction f with
    | zero =>
      intro listed a w hc hs hln inv
      exfalso
      have : false ∈ listed.toList := by
        rw [Array.getD_eq_getD_getElem?, Array.getElem?_eq_getElem (by omega)] at hln
        have h3 : listed[n]'(by omega) = false := by simpa using hln
        rw [← h3]; exact Array.mem_toList_iff.2 (Array.getElem_mem (by omega))
      have := List.count_pos_iff.2 this
      omega
    | succ f ih =>
      intro listed a w hc hs hln inv
      refine ⟨fun hr => absurd hr (ready_some (by simpa [hn] using hs) hdag' n hln), fun i hi => ?_⟩
      obtain ⟨hiu, o, ho, hdeps⟩ := mem_ready.1 hi
      have hil : i < listed.size := by
        rw [Array.getD_eq_getD_getElem?] at hiu
        rcases Nat.lt_or_ge i listed.size with h1 | h1
        · exact h1
        · rw [Array.getElem?_eq_none h1] at hiu; simp at hiu
      have hcnt := falses_set listed i hiu
      by_cases hin : i = n
      · subst hin
        have hol : lo[i]? = some o := by simpa using ho
        have hall : ∀ j, j < i → listed.getD j false = true := fun j hj => by
          rw [hol] at hlast
          simp only [Option.map_some, Option.some.injEq, List.all_eq_true, List.mem_range] at hlast
          have := hlast j hj
          rw [Array.any_eq_true'] at this
          obtain ⟨e, he, hb⟩ := this
          simp only [Bool.and_eq_true, beq_iff_eq] at hb
          rw [← hb.1]
          exact hdeps e he hb.2
        refine wpOp_mono (fun a' w' hQ => ?_) (hend a w ((Below.refl _ _).drew.trans inv.below) inv.size inv.defers inv.other (fun j oj d hj hoj hd => inv.has j oj d (by simpa using hoj) hd (hall j hj)))
        have h0 : (listed.setIfInBounds i true).toList.count false = 0 := by
          rw [List.count_eq_zero]
          intro hmem
          obtain ⟨j, hj, hje⟩ := List.mem_iff_getElem.1 hmem
          rw [Array.getElem_toList] at hje
          have hj' : j < listed.size := by simpa using hj
          by_cases hji : i = j
          · subst hji
            rw [Array.getElem_setIfInBounds_self] at hje
            simp at hje
          · rw [Array.getElem_setIfInBounds_ne hj' hji] at hje
            have := hall j (by omega)
            rw [Array.getD_eq_getD_getElem?, Array.getElem?_eq_getElem hj'] at this
            simp [hje] at this
        obtain rfl : f = 0 := by omega
        exact ⟨ready_none h0, hQ⟩
      · have hlt : i < n := by omega
        have hol : lo[i]? = some o := by simpa using ho
        refine wpOp_mono (fun a' w' hK => ?_) (hop i o hol hlt a w ⟨inv.below, inv.size, inv.defers, inv.other, fun e he hb oj d hoj hd => inv.has e.on oj d hoj hd (hdeps e he hb)⟩)
        obtain ⟨v, rfl, hbw, hv⟩ := hK
        refine ih _ _ _ (by omega) (by simpa using hs) (by rw [getD_set_ne' hin]; exact hln) ⟨inv.below.trans (hbw.mono inv.below.size), by rw [size_put]; exact inv.size, ?_, fun d hd => ?_, fun j oj d hoj hd hlj => ?_⟩
        · have : (a.put o.dst v).defers = a.defers := by cases o.dst <;> rfl
          rw [this]; exact inv.defers
        · cases hdo : o.dst with
          | none => exact inv.other d hd
          | some k =>
            rw [eval_put _ _ _ _ (by rw [inv.size]; exact hsz k (inD i o k ho hdo)), if_neg (fun h : d = k => hd (by rw [h]; exact inD i o k ho hdo))]
            exact inv.other d hd
        · by_cases hji : j = i
          · subst hji
            obtain rfl : oj = o := Option.some.inj (hoj.symm.trans ho)
            rw [hd, eval_put _ _ _ _ (by rw [inv.size]; exact hsz d (inD j oj d ho hd)), if_pos rfl]
            exact hv d hd
          · rw [getD_set_ne' (Ne.symm hji)] at hlj
            have h1 := hV _ _ _ _ (inv.has j oj d hoj hd hlj) hbw
            cases hdo : o.dst with
            | none => exact h1
            | some k =>
              have hkd : ¬ d = k := fun h => hji (dst_apart hDa hnd' hoj ho hd (by rw [h]; exact hdo))
              rw [eval_put _ _ _ _ (by rw [inv.size]; exact hsz k (inD i o k ho hdo)), if_neg hkd]
              exact h1
  have hrep : (Array.replicate lo.toArray.size false).toList.count false = lo.toArray.size := by simp
  refine key _ _ _ _ hrep (by simp [hn]) ?_ ⟨Below.refl _ _, rfl, rfl, fun _ _ => rfl, fun j o d _ _ hl => ?_⟩
  · rw [Array.getD_eq_getD_getElem?, Array.getElem?_eq_getElem (by simp [hn])]
    simp
  · exfalso
    rw [Array.getD_eq_getD_getElem?] at hl
    rcases Nat.lt_or_ge j (Array.replicate lo.toArray.size false).size with h1 | h1
    · rw [Array.getElem?_eq_getElem h1] at hl; simp at hl
    · rw [Array.getElem?_eq_none h1] at hl; simp at hl
/-! Steps of such a region. -/
theorem iv_val {ops : Array Oper} {Q : Exit → Act → World → Prop} {V : Nat → Value → World → Prop} {i : Nat} {o : Oper} {a : Act} {w : World} (hi : ops[i]? = some o) (hw : Region.wanted o (yielded ops a.tmps) = true) (v : Value)
    (hx : (execOp a.eval o).run Try.prog w = .ok (.value v) w) (hv : V i v w) : wpOp Try.prog ops Q i (fun a' w' => ∃ v, a' = a.put o.dst v ∧ Below w.heap.size w w' ∧ ∀ d, o.dst = some d → V i v w') a w :=
  wpOp_val hi hw v hx o.dst rfl ⟨v, rfl, Below.refl _ _, fun _ _ => hv⟩
theorem iv_call {ops : Array Oper} {Q : Exit → Act → World → Prop} {V : Nat → Value → World → Prop} {i : Nat} {o : Oper} {a : Act} {w : World} (hi : ops[i]? = some o) (hw : Region.wanted o (yielded ops a.tmps) = true) (f : FuncId) (vs : Array Value)
    (hf : (execOp a.eval o).run Try.prog w = .ok (.enter f vs) w) (h : Calls Try.prog f vs w fun e w' => ∃ v, e = .returned v ∧ Below w.heap.size w w' ∧ V i v w') : wpOp Try.prog ops Q i (fun a' w' => ∃ v, a' = a.put o.dst v ∧ Below w.heap.size w w' ∧ ∀ d, o.dst = some d → V i v w') a w :=
  wpOp_callQ hi hw f vs hf _ h o.dst rfl (fun v w' hD => by
    obtain ⟨u, hu, hb, hv⟩ := hD
    obtain rfl : v = u := by simpa using hu
    exact ⟨v, rfl, hb, fun _ _ => hv⟩) (fun ch w' hD => by obtain ⟨u, hu, _⟩ := hD; cases hu) (fun w' hD => by obtain ⟨u, hu, _⟩ := hD; cases hu)
theorem iv_list {ops : Array Oper} {Q : Exit → Act → World → Prop} {V : Nat → Value → World → Prop} {i : Nat} {o : Oper} {a : Act} {w : World} (hi : ops[i]? = some o)
    (h : wpList Try.prog ops (fun e a' w' => match e with | .normal => (∃ v, a' = a.put o.dst v ∧ Below w.heap.size w w' ∧ ∀ d, o.dst = some d → V i v w') | e => Q e a' w') [o] a w) : wpOp Try.prog ops Q i (fun a' w' => ∃ v, a' = a.put o.dst v ∧ Below w.heap.size w w' ∧ ∀ d, o.dst = some d → V i v w') a w :=
  wpOp_of_list hi h
theorem run_callOps {o : Oper} {f : Nat} {xs : Array Operand} {ts : Array TypeId} (ho : o.op = .call { callee := .value (.func f), args := xs, argTypes := ts }) (hf : ∀ vs W, (callFunc f vs).run Try.prog W = .ok (.enter f vs) W) (a : Act) (W : World) (vs : Array Value) (h : xs.map a.eval = vs) : (execOp a.eval o).run Try.prog W = .ok (.enter f vs) W := by
  unfold execOp
  have hef : a.eval (.func f) = .func (.func f) #[] #[] := rfl
  simp only [ho, resolve, hef, h]
  simp [go_sem, hf]
theorem iv_alloc {E : El} (H : E.Ok) {ops : Array Oper} {Q : Exit → Act → World → Prop} {V : Nat → Value → World → Prop} {i : Nat} {o : Oper} {a : Act} {w : World} (hi : ops[i]? = some o) (hw : Region.wanted o (yielded ops a.tmps) = true) (ho : o.op = .alloc E.elem)
    (hv : V i (.pointer (some ⟨w.heap.size, 0, none⟩)) (w.alloc (.cells E.zero E.elem))) : wpOp Try.prog ops Q i (fun a' w' => ∃ v, a' = a.put o.dst v ∧ Below w.heap.size w w' ∧ ∀ d, o.dst = some d → V i v w') a w := by
  obtain ⟨ie, h1, h2, _, _⟩ := H.info
  have hx : (execOp a.eval o).run Try.prog w = .ok (.value (.pointer (some ⟨w.heap.size, 0, none⟩))) (w.alloc (.cells E.zero E.elem)) := by
    unfold execOp
    simp only [ho]
    simp [go_sem, Instr.alloc, zeroValue, typeInfo, h1, h2, Value.cells]
  exact wpOp_val hi hw _ hx o.dst rfl ⟨_, rfl, (Below.refl _ _).alloc (Nat.le_refl _) _, fun _ _ => hv⟩
/-- The frame behind such a region: the slots that it wrote, one by one. -/
def putsD (D : List Nat) (y : Nat → Value) (a : Act) : Act := D.foldl (fun b d => b.put (some d) (y d)) a
theorem putsD_size (y : Nat → Value) : ∀ (D : List Nat) (a : Act), (putsD D y a).tmps.size = a.tmps.size ∧ (putsD D y a).defers = a.defers
  | [], a => ⟨rfl, rfl⟩
  | d :: D, a => by
    have := putsD_size y D (a.put (some d) (y d))
    exact ⟨this.1.trans (size_put _ _ _), this.2.trans rfl⟩
theorem putsD_eval (y : Nat → Value) : ∀ (D : List Nat) (a : Act), (∀ d ∈ D, d < a.tmps.size) → ∀ k, (putsD D y a).eval (.tmp k) = if k ∈ D then y k else a.eval (.tmp k)
  | [], a, _, k => by simp [putsD]
  | d :: D, a, h, k => by
    show (putsD D y (a.put (some d) (y d))).eval (.tmp k) = _
    rw [putsD_eval y D _ (fun e he => by rw [size_put]; exact h e (by simp [he])) k]
    by_cases hk : k ∈ D
    · rw [if_pos hk, if_pos (by simp [hk])]
    · rw [if_neg hk, eval_put _ _ _ _ (h d (by simp))]
      by_cases hkd : k = d
      · rw [if_pos hkd, if_pos (by simp [hkd]), hkd]
      · rw [if_neg hkd, if_neg (by simp [hk, hkd])]
theorem act_ext {a b : Act} (hs : a.tmps.size = b.tmps.size) (hd : a.defers = b.defers) (he : ∀ k, a.eval (.tmp k) = b.eval (.tmp k)) : a = b := by
  obtain ⟨ta, da⟩ := a
  obtain ⟨tb, db⟩ := b
  simp only at hs hd
  subst hd
  congr 1
  refine Array.ext hs fun k h1 h2 => ?_
  have := he k
  simp only [Act.eval, Array.getD_eq_getD_getElem?] at this
  rw [Array.getElem?_eq_getElem h1, Array.getElem?_eq_getElem h2] at this
  simpa using this
theorem puts_form {D : List Nat} {a a0 : Act} (hs : a.tmps.size = a0.tmps.size) (hd : a.defers = a0.defers) (ho : ∀ d, d ∉ D → a.eval (.tmp d) = a0.eval (.tmp d)) (hD : ∀ d ∈ D, d < a0.tmps.size) : a = putsD D (fun d => a.eval (.tmp d)) a0 := by
  obtain ⟨h1, h2⟩ := putsD_size (fun d => a.eval (.tmp d)) D a0
  refine act_ext (hs.trans h1.symm) (hd.trans h2.symm) fun k => ?_
  rw [putsD_eval _ _ _ hD]
  split
  · rfl
  · rename_i h; exact ho k h
end Go.Proofs.Ytpbinkmeldkehaa
