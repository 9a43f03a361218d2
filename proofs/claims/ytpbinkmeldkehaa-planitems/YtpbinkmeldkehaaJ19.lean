import Derived.Test.YtpbinkmeldkehaaJ18
import Derived.Test.YtpbinkmeldkehaaJ5
import Derived.Test.YtpbinkmeldkehaaJ12
namespace Go.Proofs.Ytpbinkmeldkehaa
open Go Go.Lib Go.RowKit Ieee
set_option maxRecDepth 20000

/-! Leaves, in memory; cut.leaf. -/
structure LeafM where
  cube : List Int × List Int
  one : Int
  two : Int
  rules : List RuleM
def okL (x : LeafM) : Prop := Byt x.cube.1 ∧ Byt x.cube.2 ∧ ∀ r ∈ x.rules, okR8 r
def leafV (x : LeafM) (u : Value) : Array Value := cv x.cube.1 x.cube.2 ++ #[.int .i64 x.one, .int .i64 x.two, u]
def LeafE : El := ⟨48, 30, 29, 72, zeroC ++ #[.int .i64 0, .int .i64 0, .slice none 0 0]⟩
theorem LeafOk : LeafE.Ok := ⟨Try.underlying30, ⟨_, Try.underlying48, rfl⟩, by kernel_rfl, by decide, by decide, by decide, by decide⟩
theorem leafV_size {x : LeafM} (h : okL x) (u : Value) : (leafV x u).size = 29 := by
  unfold leafV
  simp [cv_size _ _ h.1.1 h.2.1.1]
theorem leaf_fits {x : LeafM} (h : okL x) {u : Value} (hu : ∃ o n m, u = .slice o n m) : Fits LeafE (leafV x u) := by
  refine ⟨leafV_size h u, ?_⟩
  obtain ⟨o, n, m, rfl⟩ := hu
  unfold leafV
  rw [Array.all_append, cv_one]
  simp [Value.oneCell']
theorem leaf_at {x : LeafM} (h : okL x) (u : Value) : (∀ j, j < 26 → (leafV x u)[j]? = (cv x.cube.1 x.cube.2)[j]?) ∧ (leafV x u)[26]? = some (.int .i64 x.one) ∧ (leafV x u)[27]? = some (.int .i64 x.two) ∧ (leafV x u)[28]? = some u := by
  have hs := cv_size _ _ h.1.1 h.2.1.1
  unfold leafV
  refine ⟨fun j hj => ?_, ?_, ?_, ?_⟩
  · rw [Array.getElem?_append_left (by rw [hs]; exact hj)]
  all_goals
    rw [Array.getElem?_append_right (by simp [hs])]
    simp [hs]
set_option maxRecDepth 100000 in
theorem build_leaf (V M : List Int) (u : Value) (hV : V.length = 13) (hM : M.length = 13) (hu : ∃ o n m, u = .slice o n m) (T : List RuleM) (W : World) : (Instr.build 48 #[(0, .agg (cv V M)), (3, u)]).run Try.prog W = .ok (.agg (leafV ⟨(V, M), 0, 0, T⟩ u)) W := by
  obtain ⟨a0, a1, a2, a3, a4, a5, a6, a7, a8, a9, a10, a11, a12, rfl⟩ := list13 hV
  obtain ⟨b0, b1, b2, b3, b4, b5, b6, b7, b8, b9, b10, b11, b12, rfl⟩ := list13 hM
  obtain ⟨o, n, m, rfl⟩ := hu
  kernel_rfl
/-- A leaf's rules, in a row of one's own. -/
def LfR (B : Nat) (w : World) (x : LeafM) (u : Value) : Prop := okL x ∧ w.ownsRow B 44 28 u x.rules.length (gcells ruleV x.rules)
theorem LfR.below {B : Nat} : ∀ w w' x u, Below w.heap.size w w' → LfR B w x u → LfR B w' x u := fun _ _ _ _ hb h => ⟨h.1, gown_below h.2 hb⟩
theorem LfR.base {B B' : Nat} {w : World} {x : LeafM} {u : Value} (h : LfR B w x u) (hB : B' ≤ B) : LfR B' w x u := ⟨h.1, own_base h.2 hB⟩
theorem LfR.rules {B : Nat} {w : World} {x : LeafM} {u : Value} (h : LfR B w x u) : RulesAt w u x.rules := RulesAt.own h.1.2.2 h.2
theorem LfR.slice {B : Nat} {w : World} {x : LeafM} {u : Value} (h : LfR B w x u) : ∃ o m, u = .slice o x.rules.length m := by
  obtain ⟨o, cap, e, _, _⟩ := GSl.slice h.rules
  exact ⟨o, cap, e⟩
theorem retE12 {E : El} (H : E.Ok) {fn : Func} {R : Ending → World → Prop} {a : Act} {w : World} {p : Tmp} (hr : fn.results = #[.cell p E.elem]) (hd : a.defers = []) (g : Nat) (hp : a.tmps.getD p undef = .pointer (some ⟨g, 0, none⟩)) (cs : Array Value) (hcs : cs.size = E.size)
    (hg : w.heap[g]? = some (.cells cs E.elem (0, 0))) (h : R (.returned (.agg cs)) w) : bodyPost Try.prog fn R .ret a w := by
  refine bodyPost_ret (v := .agg cs) ?_ hd h
  rw [Array.getD_eq_getD_getElem?] at hp
  have hl := H.load w g 0 cs E.elem (0, 0) cs hcs hg (own_cells _ _)
  simp [results, hr, hp, asAddr, hl]
theorem run_build12 {o : Oper} {t : Nat} {ps : Array (Nat × Operand)} (ho : o.op = .build t ps) (a : Act) (W : World) (qs : Array (Nat × Value)) (hq : (ps.map fun (i, x) => (i, a.eval x)) = qs) (v : Value) (h : (Instr.build t qs).run Try.prog W = .ok v W) : (execOp a.eval o).run Try.prog W = .ok (.value v) W := by
  unfold execOp
  simp only [ho, Sem.run_bind, hq, h, Result.andThen_ok, Sem.run_pure]
theorem clip_ok {V M : List Int} {l : List RuleM} : ∀ r ∈ clipT V M l, okR8 r := fun r hr => by
  rcases trimO_sub _ _ _ _ hr with h | h
  · simp at h
  · exact meetL_ok r h
theorem clip_len (V M : List Int) (l : List RuleM) : (clipT V M l).length ≤ l.length := by
  have h1 := trimO_len withinR (meetL V M l) []
  have h2 := meetL_len V M l
  simp at h1
  exact Nat.le_trans h1 h2
def lf_ops : List Oper := [
  { dst := some 5, op := .load 42 (.tmp 3), type := 42, pos := "cut.go:108", after := #[], guard := none },
  { dst := some 6, op := .move (.tmp 0), type := 27, pos := "cut.go:108", after := #[], guard := none },
  { dst := some 7, op := .load 42 (.tmp 3), type := 42, pos := "cut.go:108", after := #[], guard := none },
  { dst := some 8, op := .call { callee := .value (.func 45), args := #[.tmp 6, .tmp 7], argTypes := #[27, 42] }, type := 27, pos := "cut.go:108", after := #[{ on := 1, ground := .data }, { on := 2, ground := .data }], guard := none },
  { dst := some 9, op := .build 48 #[(0, .tmp 5), (3, .tmp 8)], type := 48, pos := "cut.go:108", after := #[{ on := 0, ground := .data }, { on := 3, ground := .data }], guard := none },
  { dst := none, op := .store 48 (.tmp 4) (.tmp 9), type := 0, pos := "cut.go:108", after := #[{ on := 4, ground := .data }, { on := 3, ground := .chain }, { on := 0, ground := .phase }, { on := 1, ground := .phase }, { on := 2, ground := .phase }, { on := 3, ground := .phase }, { on := 4, ground := .phase }], guard := none }]
def lf_D : List Nat := [5, 6, 7, 8, 9]
def lf_V (B : Nat) (V M : List Int) (vl : Value) (x : LeafM) (i : Nat) (v : Value) (w : World) : Prop :=
  match i with
  | 0 => v = .agg (cv V M)
  | 1 => v = vl
  | 2 => v = .agg (cv V M)
  | 3 => LfR B w x v
  | 4 => ∃ u, v = .agg (leafV x u) ∧ LfR B w x u
  | _ => True
theorem lf_mono (B : Nat) (V M : List Int) (vl : Value) (x : LeafM) : ∀ j v w w', lf_V B V M vl x j v w → Below w.heap.size w w' → lf_V B V M vl x j v w' := by
  intro j v w w' h hb
  revert h
  unfold lf_V
  split <;> intro h <;> first
    | exact h
    | exact LfR.below _ _ _ _ hb h
    | (obtain ⟨u, h1, h2⟩ := h
       exact ⟨u, h1, LfR.below _ _ _ _ hb h2⟩)
set_option maxHeartbeats 4000000 in
theorem lf_region {id : Nat} {Q : Exit → Act → World → Prop} {a0 : Act} {w0 : World} (hs : 10 ≤ a0.tmps.size) (p q : Nat) (V M : List Int) (hV : Byt V) (hM : Byt M) (l : List RuleM) (hl0 : ∀ r ∈ l, okR8 r) (hn1 : l.length ≤ 100000) (vl : Value) (hl : RulesAt w0 vl l) (h0 : a0.eval (.tmp 0) = vl) (h3 : a0.eval (.tmp 3) = .pointer (some ⟨p, 0, none⟩)) (h4 : a0.eval (.tmp 4) = .pointer (some ⟨q, 0, none⟩))
    (hp : w0.heap[p]? = some (.cells (cv V M) 42 (0, 0))) (hq : w0.heap[q]? = some (.cells LeafE.zero LeafE.elem (0, 0)))
    (hK : ∀ y w' u, Below w0.heap.size w0 w' → LfR w0.heap.size w' ⟨(V, M), 0, 0, clipT V M l⟩ u → Q .normal (putsD lf_D y a0) (w'.setRow q (leafV ⟨(V, M), 0, 0, clipT V M l⟩ u))) : (Code.region id lf_ops.toArray true).wp Try.prog Q a0 w0 := by
  have hDs : ∀ d ∈ lf_D, d < a0.tmps.size := fun d hd => by
    have : d < 10 := by
      revert hd; unfold lf_D; intro hd
      simp only [List.mem_cons, List.not_mem_nil, or_false] at hd
      omega
    omega
  have hX : okL ⟨(V, M), 0, 0, clipT V M l⟩ := ⟨hV, hM, clip_ok⟩
  obtain ⟨x, hx⟩ : ∃ x : LeafM, x = ⟨(V, M), 0, 0, clipT V M l⟩ := ⟨_, rfl⟩
  have hxr : x.rules = clipT V M l := by rw [hx]
  rw [← hx] at hK hX
  refine region_inv 5 (lf_V w0.heap.size V M vl x) lf_D (by kernel_rfl) rfl (by kernel_rfl) (by decide) hDs (by kernel_rfl) (by kernel_rfl) (lf_mono w0.heap.size V M vl x) ?_ ?_
  · intro i o ho hi a w h
    have B : Below w0.heap.size w0 w := (Below.refl _ _).drew.trans h.below
    have e0 : a.eval (.tmp 0) = vl := (h.other 0 (by decide)).trans h0
    have e3 : a.eval (.tmp 3) = .pointer (some ⟨p, 0, none⟩) := (h.other 3 (by decide)).trans h3
    have bp : w.heap[p]? = some (.cells (cv V M) 42 (0, 0)) := (B.block p (Array.getElem?_eq_some_iff.1 hp).1).trans hp
    have ca : ∀ vs W, (callFunc 45 vs).run Try.prog W = .ok (.enter 45 vs) W := fun vs W => by have hf := Try.func45; simp [go_sem]
    rcases (show i = 0 ∨ i = 1 ∨ i = 2 ∨ i = 3 ∨ i = 4 by omega) with rfl | rfl | rfl | rfl | rfl
    · obtain rfl := Option.some.inj ho
      exact iv_val rfl rfl _ (run_loadC _ _ _ _ rfl p e3 V M bp hV.1 hM.1) rfl
    · obtain rfl := Option.some.inj ho
      exact iv_val rfl rfl vl (run_moveOp rfl _ _ _ e0) rfl
    · obtain rfl := Option.some.inj ho
      exact iv_val rfl rfl _ (run_loadC _ _ _ _ rfl p e3 V M bp hV.1 hM.1) rfl
    · obtain rfl := Option.some.inj ho
      have f1 : a.eval (.tmp 6) = vl := h.has ⟨1, .data⟩ (by simp) rfl _ 6 rfl rfl
      have f2 : a.eval (.tmp 7) = .agg (cv V M) := h.has ⟨2, .data⟩ (by simp) rfl _ 7 rfl rfl
      exact iv_call rfl rfl 45 #[vl, .agg (cv V M)] (run_callOps rfl ca _ _ _ (by simp [f1, f2])) ((clip_any l hl0 hn1 vl V M hV hM w (GSl.below hl B)).mono fun e w' h => by
        obtain ⟨⟨v, rfl, h1⟩, h2⟩ := h
        exact ⟨v, rfl, h2, hX, by rw [hxr]; exact own_base h1 B.size⟩)
    · obtain rfl := Option.some.inj ho
      have f1 : a.eval (.tmp 5) = .agg (cv V M) := h.has ⟨0, .data⟩ (by simp) rfl _ 5 rfl rfl
      have f2 : LfR w0.heap.size w x (a.eval (.tmp 8)) := h.has ⟨3, .data⟩ (by simp) rfl _ 8 rfl rfl
      obtain ⟨o', m', hu⟩ := f2.slice
      refine iv_val rfl rfl (.agg (leafV x (a.eval (.tmp 8)))) (run_build12 rfl _ _ #[(0, .agg (cv V M)), (3, a.eval (.tmp 8))] (by simp only [List.map_toArray, List.map_cons, List.map_nil, f1]) _ ?_) ⟨_, rfl, f2⟩
      rw [hx]
      exact build_leaf V M _ hV.1 hM.1 ⟨_, _, _, hu⟩ _ w
  · intro a w hb hsz hdf hot hh
    obtain ⟨u, f1, hu⟩ : ∃ u, a.eval (.tmp 9) = .agg (leafV x u) ∧ LfR w0.heap.size w x u := hh 4 _ 9 (by decide) rfl rfl
    have e4 : a.eval (.tmp 4) = .pointer (some ⟨q, 0, none⟩) := (hot 4 (by decide)).trans h4
    have bq : w.heap[q]? = some (.cells LeafE.zero LeafE.elem (0, 0)) := (hb.block q (Array.getElem?_eq_some_iff.1 hq).1).trans hq
    obtain ⟨o', m', hu'⟩ := hu.slice
    refine wpOp_of_list rfl ?_
    refine wl_storeE (E := LeafE) LeafOk rfl _ _ rfl q (leafV x u) (leaf_fits hX ⟨_, _, _, hu'⟩) e4 f1 _ bq rfl _ rfl ?_
    show Q .normal a _
    rw [puts_form hsz hdf hot hDs]
    exact hK _ _ u hb hu
set_option maxHeartbeats 4000000 in
theorem leaf_any (l : List RuleM) (hl0 : ∀ r ∈ l, okR8 r) (hn1 : l.length ≤ 100000) (vl : Value) (V M : List Int) (hV : Byt V) (hM : Byt M) (w : World) (hl : RulesAt w vl l) :
    Calls Try.prog 36 #[vl, .agg (cv V M)] w fun e w' => (∃ u, e = .returned (.agg (leafV ⟨(V, M), 0, 0, clipT V M l⟩ u)) ∧ LfR w.heap.size w' ⟨(V, M), 0, 0, clipT V M l⟩ u) ∧ Below w.heap.size w w' := by
  have hX : okL ⟨(V, M), 0, 0, clipT V M l⟩ := ⟨hV, hM, clip_ok⟩
  have g0 : Hid (((w.alloc (.cells (cv V M) 42)).alloc (.cells LeafE.zero LeafE.elem)).heap[w.heap.size]? = some (.cells (cv V M) 42 (0, 0))) := heap_past _ _ _ _ (heap_new _ _ _ rfl)
  have g1 : Hid (((w.alloc (.cells (cv V M) 42)).alloc (.cells LeafE.zero LeafE.elem)).heap[w.heap.size + 1]? = some (.cells LeafE.zero LeafE.elem (0, 0))) := heap_new _ _ _ (by simp)
  have B0 : Hid (Below w.heap.size w ((w.alloc (.cells (cv V M) 42)).alloc (.cells LeafE.zero LeafE.elem))) := ((Below.refl _ _).alloc (Nat.le_refl _) _).alloc (by simp) _
  have HL : Hid (RulesAt ((w.alloc (.cells (cv V M) 42)).alloc (.cells LeafE.zero LeafE.elem)) vl l) := GSl.below hl B0.out
  go_enter Try.func36, Try.ntmps36
  go_wp2_with fail
  refine lf_region (by simp) w.heap.size (w.heap.size + 1) V M hV hM l hl0 hn1 vl HL.out rfl rfl rfl g0.out g1.out ?_
  intro y w1 u hb1 hu
  have bq : w1.heap[w.heap.size + 1]? = some (.cells LeafE.zero LeafE.elem (0, 0)) := (hb1.block _ (Array.getElem?_eq_some_iff.1 g1.out).1).trans g1.out
  have k1 := setRow_heap _ _ _ (leafV ⟨(V, M), 0, 0, clipT V M l⟩ u) _ _ bq
  simp only [putsD, lf_D, List.foldl_cons, List.foldl_nil, Act.put, List.setIfInBounds_toArray, List.set_cons_succ, List.set_cons_zero]
  go_wp2_with fail
  refine retE12 LeafOk (p := 4) rfl rfl (w.heap.size + 1) rfl _ (leafV_size hX u) k1 ⟨⟨u, rfl, hX, ?_⟩, ?_⟩
  · refine own_setRow12 (own_base hu.2 (by simp; omega)) (fun j hj => ?_) _
    have := (World.ownsRow.lt hu.2 j hj).1
    simp at this
    omega
  · exact below_setRow (B0.out.trans (hb1.mono B0.out.size)) (by omega) _
end Go.Proofs.Ytpbinkmeldkehaa
namespace Go.Proofs.Ytpbinkmeldkehaa
open Go Go.Lib Go.RowKit Ieee
set_option maxRecDepth 20000

/-! cut.most. -/
/-- Leaves, wherever they lie. -/
abbrev LeavesAt (B : Nat) (w : World) (v : Value) (C : List LeafM) : Prop := NSl LeafE leafV (LfR B) w v C
/-- Leaves in a row of one's own. -/
abbrev LeavesOwn (B : Nat) (w : World) (v : Value) (C : List LeafM) : Prop := NOwn LeafE leafV (LfR B) w B v C
def mostT (bound : Int) : List LeafM → Nat
  | [] => 0
  | x :: l => if (x.rules.length : Int) < bound then max x.rules.length (mostT bound l) else mostT bound l
theorem most_app (bound : Int) : ∀ (A B : List LeafM), mostT bound (A ++ B) = max (mostT bound A) (mostT bound B)
  | [], B => by simp [mostT]
  | x :: A, B => by
    rw [List.cons_append, mostT, mostT, most_app bound A B]
    split
    · omega
    · rfl
theorem most_take {bound : Int} {C : List LeafM} {k : Nat} {x : LeafM} (h : C[k]? = some x) : mostT bound (C.take (k + 1)) = if (x.rules.length : Int) < bound then max (mostT bound (C.take k)) x.rules.length else mostT bound (C.take k) := by
  have e : mostT bound [x] = if (x.rules.length : Int) < bound then x.rules.length else 0 := by
    show (if _ then max _ 0 else 0) = _
    rw [Nat.max_zero]
  rw [List.take_add_one, h, most_app]
  show max _ (mostT bound [x]) = _
  rw [e]
  split
  · rfl
  · omega
theorem most_le {bound : Int} {N : Nat} : ∀ {C : List LeafM}, (∀ x ∈ C, x.rules.length ≤ N) → mostT bound C ≤ N
  | [], _ => Nat.zero_le _
  | x :: C, h => by
    have ih := most_le (bound := bound) (C := C) fun y hy => h y (List.mem_cons_of_mem _ hy)
    have hx := h x (by simp)
    unfold mostT
    split
    · omega
    · exact ih
theorem most_lt {bound : Int} (hb : 0 < bound) : ∀ (C : List LeafM), (mostT bound C : Int) < bound
  | [] => hb
  | x :: C => by
    have ih := most_lt hb C
    unfold mostT
    split
    · omega
    · exact ih
set_option maxHeartbeats 8000000 in
theorem most_any (C : List LeafM) (hn1 : C.length ≤ 100000) (hr1 : ∀ x ∈ C, x.rules.length ≤ 100000) (bound : Int) (B : Nat) (vc : Value) (w : World) (hc : LeavesAt B w vc C) :
    Calls Try.prog 38 #[vc, .int .i64 bound] w fun e w' => e = .returned (.int .i64 (mostT bound C : Nat)) ∧ Below w.heap.size w w' := by
  obtain ⟨o, cap, rfl, hc1, hc2⟩ := NSl.slice hc
  obtain ⟨n, hn0⟩ : ∃ n, n = C.length := ⟨_, rfl⟩
  have HN : Hid (n = C.length) := hn0
  rw [← hn0] at hc hc1 hn1 ⊢
  have HL : Hid (LeavesAt B w (.slice o n cap) C) := hc
  have HR1 : Hid (∀ x ∈ C, x.rules.length ≤ 100000) := hr1
  unfold maxLen at hc2
  obtain ⟨R, hR⟩ : ∃ R, R = mostT bound C := ⟨_, rfl⟩
  have HRR : Hid (R = mostT bound C) := hR
  rw [← hR]
  clear hc hn0 hR hr1
  go_enter Try.func38, Try.ntmps38
  go_wp2_with fail
  go_loopw [5, 10] (fun v i wr => ∃ (k m : Nat), k ≤ n ∧ i = .int .i64 (k : Int) ∧ v = .int .i64 (m : Int) ∧ Hid (m = mostT bound (C.take k)) ∧ Hid (Below w.heap.size w wr)) (fun _ i _ => n - (intOf i).toNat)
  case atStart => exact ⟨0, 0, Nat.zero_le _, rfl, rfl, rfl, Below.refl _ _⟩
  case round =>
    obtain ⟨k, m, hk, rfl, rfl, HM, HB⟩ := hrel
    by_cases hlt : k < n
    · have hlt' : (k : Int) < (n : Int) := by omega
      obtain ⟨g, off, cur, ty, fr, x, u, rfl, hg, hc, hxk, hxu⟩ := (NSl.below LfR.below HL.out HB.out).at k hlt
      obtain ⟨o2, cap2, rfl⟩ := hxu.slice
      have HX : Hid (okL x) := hxu.1
      have hfit := leaf_fits hxu.1 (u := .slice o2 x.rules.length cap2) ⟨_, _, _, rfl⟩
      have hsz := leafV_size hxu.1 (.slice o2 x.rules.length cap2)
      have HMT : Hid (mostT bound (C.take (k + 1)) = if (x.rules.length : Int) < bound then max m x.rules.length else m) := by show _ = _; rw [HM.out]; exact most_take hxk
      have hrl : x.rules.length ≤ 100000 := HR1.out x (List.mem_of_getElem? hxk)
      have hrc := (leaf_at hxu.1 (.slice o2 x.rules.length cap2)).2.2.2
      have K1 : Hid (wr.heap[g]? = some (.cells cur ty fr)) := hg
      have H1 : Hid (∀ j, j < 29 → cur[off + k * 29 + j]? = (leafV x (.slice o2 x.rules.length cap2))[j]?) := hc
      obtain ⟨w1, hw1⟩ : ∃ w1, w1 = wr.alloc (.cells (leafV x (.slice o2 x.rules.length cap2)) 48) := ⟨_, rfl⟩
      have B1 : Hid (Below w.heap.size w w1) := by show Below _ _ _; rw [hw1]; exact HB.out.alloc HB.out.size _
      have c28 : w1.cell? ⟨wr.heap.size, 28, none⟩ = some (.slice o2 x.rules.length cap2) := (cell_of_row _ _ _ _ _ _ (show w1.heap[wr.heap.size]? = some (.cells (leafV x (.slice o2 x.rules.length cap2)) 48 (0, 0)) by rw [hw1]; exact heap_new _ _ _ rfl)).trans hrc
      clear hg hc hxk hxu hrc
      go_wp2_with (first | (refine wl_loadE (E := LeafE) LeafOk rfl _ rfl g (off + k * 29) rfl cur ty fr (leafV x (.slice o2 x.rules.length cap2)) hsz K1.out H1.out ?_) | (refine wl_storeE (E := LeafE) LeafOk rfl _ _ rfl wr.heap.size (leafV x (.slice o2 x.rules.length cap2)) hfit rfl rfl _ (heap_new _ _ _ rfl) rfl _ (setRow_new _ _ _ _ _ rfl) ?_; refine of_stopT ?_))
      unfold StopT
      rw [← hw1]
      clear hw1
      generalize wr.heap.size = q at c28
      generalize x.rules.length = r at c28 HMT hrl
      by_cases hb : (r : Int) < bound
      · have HE : Hid (mostT bound (C.take (k + 1)) = max m r) := by show _ = _; rw [HMT.out, if_pos hb]
        go_wp2_with (refine wl_maxI rfl _ _ rfl (m : Int) (r : Int) ((max m r : Nat) : Int) rfl rfl (by omega) ?_)
        go_roundw
        case rel => exact ⟨k + 1, max m r, by omega, by go_num, rfl, HE.out.symm, B1⟩
        case measure => simp [intOf]; omega
      · have HE : Hid (mostT bound (C.take (k + 1)) = m) := by show _ = _; rw [HMT.out, if_neg hb]
        go_wp2_with fail
        go_roundw
        case rel => exact ⟨k + 1, m, by omega, by go_num, rfl, HE.out.symm, B1⟩
        case measure => simp [intOf]; omega
    · have hlt' : ¬ (k : Int) < (n : Int) := by omega
      have EN : Hid (R = m) := by show _ = _; rw [HRR.out, HM.out, List.take_of_length_le (by have := HN.out; omega)]
      go_wp2_with fail
      go_ret
      exact ⟨by rw [EN.out]; rfl, HB.out⟩
end Go.Proofs.Ytpbinkmeldkehaa
namespace Go.Proofs.Ytpbinkmeldkehaa
open Go Go.Lib Go.RowKit Ieee
set_option maxRecDepth 20000

theorem fold_size (off : Nat) (xs cs : Array Value) : (xs.zipIdx.foldl (fun cs (x : Value × Nat) => cs.setIfInBounds (off + x.2) x.1) cs).size = cs.size := by
  rw [← Array.foldl_toList]
  generalize xs.zipIdx.toList = l
  induction l generalizing cs with
  | nil => rfl
  | cons y ys ih => rw [List.foldl_cons, ih]; simp
theorem fold_pair (a b cells : Array Value) (h : a.size + b.size = cells.size) : (b.zipIdx.foldl (fun cs (x : Value × Nat) => cs.setIfInBounds (a.size + x.2) x.1) (a.zipIdx.foldl (fun cs (x : Value × Nat) => cs.setIfInBounds (0 + x.2) x.1) cells)) = a ++ b := by
  have e : ∀ (off : Nat) (xs cs : Array Value), xs.zipIdx.foldl (fun cs (x : Value × Nat) => cs.setIfInBounds (off + x.2) x.1) cs = (xs.toList.zipIdx 0).foldl (fun cs (x : Value × Nat) => cs.setIfInBounds (off + x.2) x.1) cs := fun off xs cs => by
    rw [← Array.foldl_toList]; simp
  have hsz : ∀ (off : Nat) (xs : List (Value × Nat)) (cs : Array Value), (xs.foldl (fun cs (x : Value × Nat) => cs.setIfInBounds (off + x.2) x.1) cs).size = cs.size := fun off xs => by
    induction xs with
    | nil => intro cs; rfl
    | cons y ys ih => intro cs; rw [List.foldl_cons, ih]; simp
  rw [e, e]
  apply Array.ext_getElem?
  intro k
  rw [gfold_get a.size b.toList 0 _ k (by rw [hsz]; simp; omega), gfold_get 0 a.toList 0 _ k (by simp; omega)]
  simp only [Nat.zero_add, Nat.add_zero, Array.length_toList, Nat.zero_le, true_and, Nat.sub_zero, Array.getElem?_toList]
  rw [Array.getElem?_append]
  by_cases h1 : k < a.size
  · rw [if_neg (by omega), if_pos h1, if_pos h1]
  · rw [if_neg h1, if_neg h1]
    by_cases h2 : k < a.size + b.size
    · rw [if_pos (by omega)]
    · rw [if_neg (by omega), Array.getElem?_eq_none (by omega), Array.getElem?_eq_none (by omega)]
set_option maxRecDepth 20000 in
/-- A slice of two elements. -/
theorem wl_build2E {E : El} (H : E.Ok) {ops : Array Oper} {rest : List Oper} {o : Oper} {a : Act} {w : World} {Q : Exit → Act → World → Prop} (hg : o.guard = none) (x y : Operand) (ho : o.op = .buildSlice E.slice 2 #[(0, x), (1, y)]) (cs ds : Array Value) (hcs : cs.size = E.size) (hds : ds.size = E.size) (hx : a.eval x = .agg cs) (hy : a.eval y = .agg ds)
    (h : wpList Try.prog ops Q rest (a.put o.dst (.slice (some ⟨w.heap.size, 0, none⟩) 2 2)) (w.alloc (.cells (cs ++ ds) E.elem))) : wpList Try.prog ops Q (o :: rest) a w := by
  obtain ⟨ie, hie, hz, hs, _⟩ := H.info
  refine wpList_buildSlice hg E.slice E.elem 2 _ ho (cs ++ ds) ie (.agg E.zero) H.hs hie hz (by rw [hs]; have := H.hn; omega) (by rw [hs]; have := H.hp; omega) ?_ h
  simp only [List.map_toArray, List.map_cons, List.map_nil, hx, hy, Instr.fill, hs, Nat.zero_mul, Nat.one_mul, Value.cells, hcs, hds]
  rw [if_neg (by simp; omega), if_neg (by rw [fold_size]; simp; omega)]
  congr 1
  have := fold_pair cs ds (Array.map (fun x => E.zero[x % E.zero.size]!) (Array.range (2 * E.size))) (by rw [hcs, hds]; simp; omega)
  rw [hcs] at this
  exact this
/-- Two leaves in a new row. -/
theorem two_own {B : Nat} {w : World} {x y : LeafM} {u v : Value} (hB : B ≤ w.heap.size) (hx : LfR B w x u) (hy : LfR B w y v) : LeavesOwn B (w.alloc (.cells (leafV x u ++ leafV y v) LeafE.elem)) (.slice (some ⟨w.heap.size, 0, none⟩) 2 2) [x, y] := by
  have hsx := leafV_size hx.1 u
  have hsy := leafV_size hy.1 v
  have hb : Below w.heap.size w (w.alloc (.cells (leafV x u ++ leafV y v) LeafE.elem)) := (Below.refl _ _).alloc (Nat.le_refl _) _
  have h := World.ownsRow_lit (base := B) (e := LeafE.elem) (size := 29) w (leafV x u ++ leafV y v) 2 hB (by unfold maxLen; omega) (by simp [hsx, hsy])
  refine ⟨[(x, u), (y, v)], rfl, ?_, fun p hp => ?_⟩
  · have e : gcells (fun p : LeafM × Value => leafV p.1 p.2) [(x, u), (y, v)] = (leafV x u ++ leafV y v).toList := by
      unfold gcells
      simp
    rw [e]
    exact h
  · simp only [List.mem_cons, List.not_mem_nil, or_false] at hp
    rcases hp with rfl | rfl
    · exact LfR.below _ _ _ _ hb hx
    · exact LfR.below _ _ _ _ hb hy
theorem one_own {B : Nat} {w : World} {x : LeafM} {u : Value} (hB : B ≤ w.heap.size) (hx : LfR B w x u) : LeavesOwn B (w.alloc (.cells (leafV x u) LeafE.elem)) (.slice (some ⟨w.heap.size, 0, none⟩) 1 1) [x] := by
  have hsx := leafV_size hx.1 u
  have hb : Below w.heap.size w (w.alloc (.cells (leafV x u) LeafE.elem)) := (Below.refl _ _).alloc (Nat.le_refl _) _
  have h := World.ownsRow_lit (base := B) (e := LeafE.elem) (size := 29) w (leafV x u) 1 hB (by unfold maxLen; omega) (by simp [hsx])
  refine ⟨[(x, u)], rfl, ?_, fun p hp => ?_⟩
  · have e : gcells (fun p : LeafM × Value => leafV p.1 p.2) [(x, u)] = (leafV x u).toList := by
      unfold gcells
      simp
    rw [e]
    exact h
  · simp only [List.mem_cons, List.not_mem_nil, or_false] at hp
    subst hp
    exact LfR.below _ _ _ _ hb hx
def pt_ops : List Oper := [
  { dst := some 31, op := .fieldAddr 48 (.tmp 2) 3, type := 0, pos := "cut.go:118", after := #[], guard := none },
  { dst := some 32, op := .load 27 (.tmp 31), type := 27, pos := "cut.go:118", after := #[{ on := 0, ground := .data }], guard := none },
  { dst := some 33, op := .load 42 (.tmp 7), type := 42, pos := "cut.go:118", after := #[], guard := none },
  { dst := some 34, op := .call { callee := .value (.func 36), args := #[.tmp 32, .tmp 33], argTypes := #[27, 42] }, type := 48, pos := "cut.go:118", after := #[{ on := 1, ground := .data }, { on := 2, ground := .data }], guard := none },
  { dst := some 35, op := .fieldAddr 48 (.tmp 2) 3, type := 0, pos := "cut.go:118", after := #[], guard := none },
  { dst := some 36, op := .load 27 (.tmp 35), type := 27, pos := "cut.go:118", after := #[{ on := 4, ground := .data }], guard := none },
  { dst := some 37, op := .load 42 (.tmp 8), type := 42, pos := "cut.go:118", after := #[], guard := none },
  { dst := some 38, op := .call { callee := .value (.func 36), args := #[.tmp 36, .tmp 37], argTypes := #[27, 42] }, type := 48, pos := "cut.go:118", after := #[{ on := 5, ground := .data }, { on := 6, ground := .data }, { on := 3, ground := .chain }], guard := none },
  { dst := some 39, op := .buildSlice 30 2 #[(0, .tmp 34), (1, .tmp 38)], type := 30, pos := "cut.go:118", after := #[{ on := 3, ground := .data }, { on := 7, ground := .data }], guard := none },
  { dst := some 4, op := .assign (.tmp 39), type := 30, pos := "cut.go:118", after := #[{ on := 8, ground := .data }, { on := 7, ground := .chain }, { on := 0, ground := .phase }, { on := 1, ground := .phase }, { on := 2, ground := .phase }, { on := 3, ground := .phase }, { on := 4, ground := .phase }, { on := 5, ground := .phase }, { on := 6, ground := .phase }, { on := 7, ground := .phase }, { on := 8, ground := .phase }], guard := none }]
def pt_D : List Nat := [31, 32, 33, 34, 35, 36, 37, 38, 39, 4]
def pt_V (B p : Nat) (A0 A1 AM : List Int) (vl : Value) (x y : LeafM) (i : Nat) (v : Value) (w : World) : Prop :=
  match i with
  | 0 => v = .pointer (some ⟨p, 28, none⟩)
  | 1 => v = vl
  | 2 => v = .agg (cv A0 AM)
  | 3 => ∃ u, v = .agg (leafV x u) ∧ LfR B w x u
  | 4 => v = .pointer (some ⟨p, 28, none⟩)
  | 5 => v = vl
  | 6 => v = .agg (cv A1 AM)
  | 7 => ∃ u, v = .agg (leafV y u) ∧ LfR B w y u
  | 8 => LeavesOwn B w v [x, y]
  | _ => True
theorem pt_mono (B p : Nat) (A0 A1 AM : List Int) (vl : Value) (x y : LeafM) : ∀ j v w w', pt_V B p A0 A1 AM vl x y j v w → Below w.heap.size w w' → pt_V B p A0 A1 AM vl x y j v w' := by
  intro j v w w' h hb
  revert h
  unfold pt_V
  split <;> intro h <;> first
    | exact h
    | exact NOwn.below LfR.below h hb
    | (obtain ⟨u, h1, h2⟩ := h
       exact ⟨u, h1, LfR.below _ _ _ _ hb h2⟩)
theorem load_rules (W : World) (ad : Addr) (v : Value) (h : W.cell? ad = some v) : (Instr.loadAt 27 (.pointer (some ad))).run Try.prog W = .ok v W := load_cell Try.underlying27 W ad v h
set_option maxHeartbeats 4000000 in
theorem pt_region {id : Nat} {Q : Exit → Act → World → Prop} {a0 : Act} {w0 : World} (hs : 40 ≤ a0.tmps.size) (B p q0 q1 : Nat) (A0 A1 AM : List Int) (hA0 : Byt A0) (hA1 : Byt A1) (hAM : Byt AM) (x0 : LeafM) (hx0 : okL x0) (hn1 : x0.rules.length ≤ 100000) (vl : Value) (hl : RulesAt w0 vl x0.rules) (hB : B ≤ w0.heap.size)
    (h2 : a0.eval (.tmp 2) = .pointer (some ⟨p, 0, none⟩)) (h7 : a0.eval (.tmp 7) = .pointer (some ⟨q0, 0, none⟩)) (h8 : a0.eval (.tmp 8) = .pointer (some ⟨q1, 0, none⟩))
    (hp : w0.heap[p]? = some (.cells (leafV x0 vl) 48 (0, 0))) (hq0 : w0.heap[q0]? = some (.cells (cv A0 AM) 42 (0, 0))) (hq1 : w0.heap[q1]? = some (.cells (cv A1 AM) 42 (0, 0)))
    (hK : ∀ y w' v, Below w0.heap.size w0 w' → LeavesOwn B w' v [⟨(A0, AM), 0, 0, clipT A0 AM x0.rules⟩, ⟨(A1, AM), 0, 0, clipT A1 AM x0.rules⟩] → Q .normal ((putsD pt_D y a0).put (some 4) v) w') : (Code.region id pt_ops.toArray true).wp Try.prog Q a0 w0 := by
  have hDs : ∀ d ∈ pt_D, d < a0.tmps.size := fun d hd => by
    have : d < 40 := by
      revert hd; unfold pt_D; intro hd
      simp only [List.mem_cons, List.not_mem_nil, or_false] at hd
      omega
    omega
  obtain ⟨x, hx⟩ : ∃ x : LeafM, x = ⟨(A0, AM), 0, 0, clipT A0 AM x0.rules⟩ := ⟨_, rfl⟩
  obtain ⟨y, hy⟩ : ∃ y : LeafM, y = ⟨(A1, AM), 0, 0, clipT A1 AM x0.rules⟩ := ⟨_, rfl⟩
  rw [← hx, ← hy] at hK
  have hc := (leaf_at hx0 vl).2.2.2
  refine region_inv 9 (pt_V B p A0 A1 AM vl x y) pt_D (by kernel_rfl) rfl (by kernel_rfl) (by decide) hDs (by kernel_rfl) (by kernel_rfl) (pt_mono B p A0 A1 AM vl x y) ?_ ?_
  · intro i o ho hi a w h
    have BW : Below w0.heap.size w0 w := (Below.refl _ _).drew.trans h.below
    have e2 : a.eval (.tmp 2) = .pointer (some ⟨p, 0, none⟩) := (h.other 2 (by decide)).trans h2
    have e7 : a.eval (.tmp 7) = .pointer (some ⟨q0, 0, none⟩) := (h.other 7 (by decide)).trans h7
    have e8 : a.eval (.tmp 8) = .pointer (some ⟨q1, 0, none⟩) := (h.other 8 (by decide)).trans h8
    have bp : w.heap[p]? = some (.cells (leafV x0 vl) 48 (0, 0)) := (BW.block p (Array.getElem?_eq_some_iff.1 hp).1).trans hp
    have b0 : w.heap[q0]? = some (.cells (cv A0 AM) 42 (0, 0)) := (BW.block q0 (Array.getElem?_eq_some_iff.1 hq0).1).trans hq0
    have b1 : w.heap[q1]? = some (.cells (cv A1 AM) 42 (0, 0)) := (BW.block q1 (Array.getElem?_eq_some_iff.1 hq1).1).trans hq1
    have c28 : w.cell? ⟨p, 28, none⟩ = some vl := (cell_of_row _ _ _ _ _ _ bp).trans hc
    have ca : ∀ vs W, (callFunc 36 vs).run Try.prog W = .ok (.enter 36 vs) W := fun vs W => by have hf := Try.func36; simp [go_sem]
    have hBw : B ≤ w.heap.size := Nat.le_trans hB BW.size
    rcases (show i = 0 ∨ i = 1 ∨ i = 2 ∨ i = 3 ∨ i = 4 ∨ i = 5 ∨ i = 6 ∨ i = 7 ∨ i = 8 by omega) with rfl | rfl | rfl | rfl | rfl | rfl | rfl | rfl | rfl
    · obtain rfl := Option.some.inj ho
      exact iv_val rfl rfl _ (run_fieldOp rfl _ _ _ ((congrArg (fun y => (Instr.fieldAt 48 y 3).run Try.prog w) e2).trans (show _ = Result.ok (.pointer (some ⟨p, 28, none⟩)) w by simp [go_sem]))) rfl
    · obtain rfl := Option.some.inj ho
      have f0 : a.eval (.tmp 31) = .pointer (some ⟨p, 28, none⟩) := h.has ⟨0, .data⟩ (by simp) rfl _ 31 rfl rfl
      exact iv_val rfl rfl _ (run_loadOp rfl _ _ _ _ f0 (load_rules _ _ _ c28)) rfl
    · obtain rfl := Option.some.inj ho
      exact iv_val rfl rfl _ (run_loadC _ _ _ _ rfl q0 e7 A0 AM b0 hA0.1 hAM.1) rfl
    · obtain rfl := Option.some.inj ho
      have f1 : a.eval (.tmp 32) = vl := h.has ⟨1, .data⟩ (by simp) rfl _ 32 rfl rfl
      have f2 : a.eval (.tmp 33) = .agg (cv A0 AM) := h.has ⟨2, .data⟩ (by simp) rfl _ 33 rfl rfl
      exact iv_call rfl rfl 36 #[vl, .agg (cv A0 AM)] (run_callOps rfl ca _ _ _ (by simp [f1, f2])) ((leaf_any x0.rules hx0.2.2 hn1 vl A0 AM hA0 hAM w (GSl.below hl BW)).mono fun e w' h => by
        obtain ⟨⟨v, rfl, h1⟩, h2⟩ := h
        rw [← hx] at h1 ⊢
        exact ⟨_, rfl, h2, v, rfl, h1.base hBw⟩)
    · obtain rfl := Option.some.inj ho
      exact iv_val rfl rfl _ (run_fieldOp rfl _ _ _ ((congrArg (fun y => (Instr.fieldAt 48 y 3).run Try.prog w) e2).trans (show _ = Result.ok (.pointer (some ⟨p, 28, none⟩)) w by simp [go_sem]))) rfl
    · obtain rfl := Option.some.inj ho
      have f0 : a.eval (.tmp 35) = .pointer (some ⟨p, 28, none⟩) := h.has ⟨4, .data⟩ (by simp) rfl _ 35 rfl rfl
      exact iv_val rfl rfl _ (run_loadOp rfl _ _ _ _ f0 (load_rules _ _ _ c28)) rfl
    · obtain rfl := Option.some.inj ho
      exact iv_val rfl rfl _ (run_loadC _ _ _ _ rfl q1 e8 A1 AM b1 hA1.1 hAM.1) rfl
    · obtain rfl := Option.some.inj ho
      have f1 : a.eval (.tmp 36) = vl := h.has ⟨5, .data⟩ (by simp) rfl _ 36 rfl rfl
      have f2 : a.eval (.tmp 37) = .agg (cv A1 AM) := h.has ⟨6, .data⟩ (by simp) rfl _ 37 rfl rfl
      exact iv_call rfl rfl 36 #[vl, .agg (cv A1 AM)] (run_callOps rfl ca _ _ _ (by simp [f1, f2])) ((leaf_any x0.rules hx0.2.2 hn1 vl A1 AM hA1 hAM w (GSl.below hl BW)).mono fun e w' h => by
        obtain ⟨⟨v, rfl, h1⟩, h2⟩ := h
        rw [← hy] at h1 ⊢
        exact ⟨_, rfl, h2, v, rfl, h1.base hBw⟩)
    · obtain rfl := Option.some.inj ho
      obtain ⟨u, f1, hu⟩ : ∃ u, a.eval (.tmp 34) = .agg (leafV x u) ∧ LfR B w x u := h.has ⟨3, .data⟩ (by simp) rfl _ 34 rfl rfl
      obtain ⟨v, f2, hv⟩ : ∃ u, a.eval (.tmp 38) = .agg (leafV y u) ∧ LfR B w y u := h.has ⟨7, .data⟩ (by simp) rfl _ 38 rfl rfl
      refine iv_list rfl ?_
      refine wl_build2E (E := LeafE) LeafOk rfl _ _ rfl (leafV x u) (leafV y v) (leafV_size hu.1 u) (leafV_size hv.1 v) f1 f2 ?_
      exact ⟨_, rfl, (Below.refl _ _).alloc (Nat.le_refl _) _, fun _ _ => two_own hBw hu hv⟩
  · intro a w hb hsz hdf hot hh
    have f8 : LeavesOwn B w (a.eval (.tmp 39)) [x, y] := hh 8 _ 39 (by decide) rfl rfl
    obtain ⟨v, hv⟩ : ∃ v, a.eval (.tmp 39) = v := ⟨_, rfl⟩
    rw [hv] at f8
    refine wpOp_assign rfl rfl _ rfl v hv (some 4) rfl ?_
    show Q .normal (a.put (some 4) v) w
    rw [puts_form hsz hdf hot hDs]
    exact hK _ w v hb f8
theorem cand_free {V M : List Int} {l : List RuleM} {b i x : Nat} (h : candO V M l b i = some x) : bt M i = false := by
  unfold candO at h
  cases e : bt M i with
  | true => rw [e, if_pos rfl] at h; cases h
  | false => rfl
theorem best_free {V M : List Int} {l : List RuleM} {b i x : Nat} : ∀ {k : Nat}, bestO V M l b k = some (i, x) → i < k ∧ candO V M l b i = some x
  | 0, h => by cases h
  | k + 1, h => by
    unfold bestO at h
    cases hc : candO V M l b k with
    | none =>
      rw [hc] at h
      have := best_free (k := k) h
      exact ⟨by omega, this.2⟩
    | some z =>
      rw [hc] at h
      cases hs : bestO V M l b k with
      | none =>
        rw [hs] at h
        cases h
        exact ⟨by omega, hc⟩
      | some p =>
        rw [hs] at h
        obtain ⟨j, y⟩ := p
        unfold stepO at h
        dsimp only at h
        split at h
        · cases h
          exact ⟨by omega, hc⟩
        · cases h
          have := best_free hs
          exact ⟨by omega, this.2⟩
/-- What a leaf gives way to. -/
def halfL (x : LeafM) (i : Nat) (c : Bool) : LeafM := ⟨(fixV x.cube.1 x.cube.2 i c, fixM x.cube.2 i), 0, 0, clipT (fixV x.cube.1 x.cube.2 i c) (fixM x.cube.2 i) x.rules⟩
def partsT (b : Nat) (x : LeafM) : List LeafM := match bestO x.cube.1 x.cube.2 x.rules b 104 with
  | none => [x]
  | some (i, _) => [halfL x i false, halfL x i true]
set_option maxHeartbeats 8000000 in
theorem parts_any (x : LeafM) (hn1 : x.rules.length ≤ 100000) (b : Nat) (hwb : Wd b) (B : Nat) (u : Value) (w : World) (hB : B ≤ w.heap.size) (hx : LfR B w x u) :
    Calls Try.prog 39 #[.agg (leafV x u), .float .f64 b] w fun e w' => (∃ v, e = .returned v ∧ LeavesOwn B w' v (partsT b x)) ∧ Below w.heap.size w w' := by
  have hok := hx.1
  have hsz := leafV_size hok u
  have hat := leaf_at hok u
  obtain ⟨o2, cap2, rfl⟩ := hx.slice
  have hVl := hok.1.1
  have hMl := hok.2.1.1
  obtain ⟨w0, hw0⟩ : ∃ w0, w0 = w.alloc (.cells (leafV x (.slice o2 x.rules.length cap2)) 48) := ⟨_, rfl⟩
  have K0 : Hid (w0.heap[w.heap.size]? = some (.cells (leafV x (.slice o2 x.rules.length cap2)) 48 (0, 0))) := by show _ = _; rw [hw0]; exact heap_new _ _ _ rfl
  have B0 : Hid (Below w.heap.size w w0) := by show Below _ _ _; rw [hw0]; exact (Below.refl _ _).alloc (Nat.le_refl _) _
  have c28 : w0.cell? ⟨w.heap.size, 28, none⟩ = some (.slice o2 x.rules.length cap2) := (cell_of_row _ _ _ _ _ _ K0.out).trans hat.2.2.2
  have CA : Hid (∀ j, j < 26 → (leafV x (.slice o2 x.rules.length cap2))[0 + j]? = (cv x.cube.1 x.cube.2)[j]?) := fun j hj => by rw [Nat.zero_add]; exact hat.1 j hj
  have R0 : Hid (RulesAt w0 (.slice o2 x.rules.length cap2) x.rules) := GSl.below hx.rules B0.out
  have L0 : Hid (LfR B w0 x (.slice o2 x.rules.length cap2)) := LfR.below _ _ _ _ B0.out hx
  have be := bst_any x.rules hok.2.2 hn1 (.slice o2 x.rules.length cap2) x.cube.1 x.cube.2 hok.1 hok.2.1 b hwb w0 R0.out
  have HPT : Hid (partsT b x = match bestO x.cube.1 x.cube.2 x.rules b 104 with | none => [x] | some (i, _) => [halfL x i false, halfL x i true]) := rfl
  subst hw0
  go_enter Try.func39, Try.ntmps39
  cases hbo : bestO x.cube.1 x.cube.2 x.rules b 104 with
  | none =>
    rw [hbo] at be HPT
    go_wp2_with (first | ((with_reducible refine wl_gC12 _ rfl ?_); refine wl_loadCw rfl _ rfl w.heap.size 0 rfl _ _ _ x.cube.1 x.cube.2 hVl hMl K0.out CA.out ?_) | (go_at_call 46; refine be.mono ?_; rintro e w1 ⟨rfl, hb1⟩; refine of_stopT ?_))
    unfold StopT
    have B1 : Hid (Below w.heap.size w w1) := below_stepR B0.out B0.out.size hb1
    have K1 : Hid (w1.heap[w.heap.size]? = some (.cells (leafV x (.slice o2 x.rules.length cap2)) 48 (0, 0))) := (hb1.block _ (Array.getElem?_eq_some_iff.1 K0.out).1).trans K0.out
    have L1 : Hid (LfR B w1 x (.slice o2 x.rules.length cap2)) := LfR.below _ _ _ _ hb1 L0.out
    clear hb1 be c28 K0 R0 L0
    go_wp2_with (first | (refine wl_loadE (E := LeafE) LeafOk rfl _ rfl w.heap.size 0 rfl _ _ _ (leafV x (.slice o2 x.rules.length cap2)) hsz K1.out (own_cells _ _) ?_) | (refine wl_buildE (E := LeafE) LeafOk rfl _ rfl (leafV x (.slice o2 x.rules.length cap2)) hsz rfl ?_))
    go_ret
    refine ⟨⟨_, rfl, ?_⟩, B1.out.alloc B1.out.size _⟩
    rw [HPT.out]
    exact one_own (Nat.le_trans hB B1.out.size) L1.out
  | some p =>
    obtain ⟨i, z⟩ := p
    obtain ⟨hi, hcd⟩ := best_free hbo
    have hbt := cand_free hcd
    rw [hbo] at be HPT
    have HA0 : Hid (Byt (fixV x.cube.1 x.cube.2 i false)) := setb_byt _ i false
    have HA1 : Hid (Byt (fixV x.cube.1 x.cube.2 i true)) := setb_byt _ i true
    have HAM : Hid (Byt (fixM x.cube.2 i)) := setb_byt _ i true
    have HLE : Hid ([(⟨(fixV x.cube.1 x.cube.2 i false, fixM x.cube.2 i), 0, 0, clipT (fixV x.cube.1 x.cube.2 i false) (fixM x.cube.2 i) x.rules⟩ : LeafM), ⟨(fixV x.cube.1 x.cube.2 i true, fixM x.cube.2 i), 0, 0, clipT (fixV x.cube.1 x.cube.2 i true) (fixM x.cube.2 i) x.rules⟩] = partsT b x) := HPT.out.symm
    go_wp2_with (first | ((with_reducible refine wl_gC12 _ rfl ?_); refine wl_loadCw rfl _ rfl w.heap.size 0 rfl _ _ _ x.cube.1 x.cube.2 hVl hMl K0.out CA.out ?_) | (go_at_call 46; refine be.mono ?_; rintro e w1 ⟨rfl, hb1⟩; refine of_stopT ?_))
    unfold StopT
    have B1 : Hid (Below w.heap.size w w1) := below_stepR B0.out B0.out.size hb1
    have K1 : Hid (w1.heap[w.heap.size]? = some (.cells (leafV x (.slice o2 x.rules.length cap2)) 48 (0, 0))) := (hb1.block _ (Array.getElem?_eq_some_iff.1 K0.out).1).trans K0.out
    have R1 : Hid (RulesAt w1 (.slice o2 x.rules.length cap2) x.rules) := GSl.below R0.out hb1
    have sp := split_free x.cube.1 x.cube.2 hok.1 hok.2.1 i hi hbt w1
    clear hb1 be c28 K0 R0 L0 hbo hcd hbt
    generalize fixV x.cube.1 x.cube.2 i false = A0 at sp HA0 HLE
    generalize fixV x.cube.1 x.cube.2 i true = A1 at sp HA1 HLE
    generalize fixM x.cube.2 i = AM at sp HAM HLE
    have l0 : A0.length = 13 := HA0.out.1
    have l1 : A1.length = 13 := HA1.out.1
    have lm : AM.length = 13 := HAM.out.1
    go_wp2_with (first | ((with_reducible refine wl_gC12 _ rfl ?_); refine wl_loadCw rfl _ rfl w.heap.size 0 rfl _ _ _ x.cube.1 x.cube.2 hVl hMl K1.out CA.out ?_) | (go_at_call 47; refine sp.mono ?_; rintro e w2 ⟨rfl, hb2⟩; refine of_stopT ?_))
    unfold StopT
    have B2 : Hid (Below w.heap.size w w2) := below_stepR B1.out B1.out.size hb2
    have K2 : Hid (w2.heap[w.heap.size]? = some (.cells (leafV x (.slice o2 x.rules.length cap2)) 48 (0, 0))) := (hb2.block _ (Array.getElem?_eq_some_iff.1 K1.out).1).trans K1.out
    have R2 : Hid (RulesAt w2 (.slice o2 x.rules.length cap2) x.rules) := GSl.below R1.out hb2
    clear hb2 sp K1 R1
    obtain ⟨w3, hw3⟩ : ∃ w3, w3 = (w2.alloc (.cells (cv A0 AM) 42)).alloc (.cells (cv A1 AM) 42) := ⟨_, rfl⟩
    have Y0 : Hid (w3.heap[w2.heap.size]? = some (.cells (cv A0 AM) 42 (0, 0))) := by show _ = _; rw [hw3]; exact heap_past _ _ _ _ (heap_new _ _ _ rfl)
    have Y1 : Hid (w3.heap[w2.heap.size + 1]? = some (.cells (cv A1 AM) 42 (0, 0))) := by show _ = _; rw [hw3]; exact heap_new _ _ _ (by simp)
    have K3 : Hid (w3.heap[w.heap.size]? = some (.cells (leafV x (.slice o2 x.rules.length cap2)) 48 (0, 0))) := by show _ = _; rw [hw3]; exact heap_past _ _ _ _ (heap_past _ _ _ _ K2.out)
    have B23 : Hid (Below w2.heap.size w2 w3) := by show Below _ _ _; rw [hw3]; exact ((Below.refl _ _).alloc (Nat.le_refl _) _).alloc (by simp) _
    have B3 : Hid (Below w.heap.size w w3) := below_stepR B2.out B2.out.size B23.out
    have R3 : Hid (RulesAt w3 (.slice o2 x.rules.length cap2) x.rules) := GSl.below R2.out B23.out
    go_wp2_with (first | ((with_reducible refine wl_gSC12 _ _ rfl ?_); (first | refine wl_storeC rfl _ _ rfl w2.heap.size A0 AM rfl rfl _ (heap_past _ _ _ _ (heap_new _ _ _ rfl)) rfl l0 lm _ (setRow_two12 _ _ _ _ _ _ rfl) ?_ | (refine wl_storeC rfl _ _ rfl (w2.heap.size + 1) A1 AM rfl rfl _ (heap_new _ _ _ (by simp)) rfl l1 lm _ (setRow_new _ _ _ _ _ (by simp)) ?_; refine of_stopT ?_))))
    unfold StopT
    rw [← hw3]
    clear hw3 B23 R2 K2
    generalize w2.heap.size = q2 at Y0 Y1
    go_wp2_with fail
    refine pt_region (by exact Nat.le_of_eq rfl) B w.heap.size q2 (q2 + 1) A0 A1 AM HA0.out HA1.out HAM.out x hok hn1 _ R3.out (Nat.le_trans hB B3.out.size) rfl rfl rfl K3.out Y0.out Y1.out ?_
    intro y w4 v hb4 ho4
    have B4 : Hid (Below w.heap.size w w4) := below_stepR B3.out B3.out.size hb4
    rw [HLE.out] at ho4
    have O4 : Hid (LeavesOwn B w4 v (partsT b x)) := ho4
    clear hb4 ho4
    simp only [putsD, pt_D, List.foldl_cons, List.foldl_nil, Act.put, List.setIfInBounds_toArray, List.set_cons_succ, List.set_cons_zero]
    go_wp2_with fail
    go_ret
    exact ⟨⟨_, rfl, O4.out⟩, B4.out⟩
end Go.Proofs.Ytpbinkmeldkehaa
