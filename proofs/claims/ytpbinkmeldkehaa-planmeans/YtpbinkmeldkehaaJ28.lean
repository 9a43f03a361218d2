import Derived.Test.YtpbinkmeldkehaaJ27
import Derived.Test.YtpbinkmeldkehaaJ7
namespace Go.Proofs.Ytpbinkmeldkehaa
open Go Go.Lib Go.RowKit Ieee
set_option maxRecDepth 20000

/-! The reference's Tree: its drawn regions, and what its loops hold. -/
theorem wl_zero12 {ops : Array Oper} {rest : List Oper} {o : Oper} {a : Act} {w : World} {Q : Exit → Act → World → Prop} (hgd : o.guard = none) (ho : o.op = .build 42 #[])
    (h : wpList Try.prog ops Q rest (a.put o.dst (.agg (cv Z Z))) w) : wpList Try.prog ops Q (o :: rest) a w := by
  refine wpList_plain hgd fun K hK => ?_
  unfold Oper.wp execOp
  have e : ((#[] : Array (Nat × Operand)).map (fun (i, x) => (i, a.eval x))) = #[] := by simp
  have hb : (Instr.build 42 #[]).run Try.prog w = .ok (.agg (cv Z Z)) w := by
    rw [← zeroC_eq]; kernel_rfl
  simp only [ho, Sem.run_bind]
  rw [e, hb]
  exact hK _ _ h
theorem clip_leaf {w0 w' : World} {B : Nat} {V M : List Int} (hV : Byt V) (hM : Byt M) {l : List RuleM} {v : Value} (hB : B ≤ w0.heap.size) (h : w'.ownsRow w0.heap.size 44 28 v (clipT V M l).length (gcells ruleV (clipT V M l))) : LfR B w' ⟨(V, M), 0, 0, clipT V M l⟩ v := ⟨⟨hV, hM, clip_ok⟩, own_base h hB⟩
def t2_ops : List Oper := [
  { dst := some 26, op := .load 42 (.tmp 9), type := 42, pos := "ref.go:77", after := #[], guard := none },
  { dst := some 27, op := .move (.tmp 0), type := 27, pos := "ref.go:77", after := #[], guard := none },
  { dst := some 28, op := .load 42 (.tmp 9), type := 42, pos := "ref.go:77", after := #[], guard := none },
  { dst := some 29, op := .call { callee := .value (.func 48), args := #[.tmp 27, .tmp 28], argTypes := #[27, 42] }, type := 27, pos := "ref.go:77", after := #[{ on := 1, ground := .data }, { on := 2, ground := .data }], guard := none },
  { dst := some 30, op := .build 48 #[(0, .tmp 26), (3, .tmp 29)], type := 48, pos := "ref.go:77", after := #[{ on := 0, ground := .data }, { on := 3, ground := .data }], guard := none },
  { dst := some 31, op := .buildSlice 30 1 #[(0, .tmp 30)], type := 30, pos := "ref.go:77", after := #[{ on := 4, ground := .data }], guard := none },
  { dst := some 10, op := .assign (.tmp 31), type := 30, pos := "ref.go:77", after := #[{ on := 5, ground := .data }, { on := 3, ground := .chain }, { on := 0, ground := .phase }, { on := 1, ground := .phase }, { on := 2, ground := .phase }, { on := 3, ground := .phase }, { on := 4, ground := .phase }, { on := 5, ground := .phase }], guard := none }]
def t2_D : List Nat := [26, 27, 28, 29, 30, 31, 10]
def t2_V (B : Nat) (V M : List Int) (vl : Value) (x : LeafM) (i : Nat) (v : Value) (w : World) : Prop :=
  match i with
  | 0 => v = .agg (cv V M)
  | 1 => v = vl
  | 2 => v = .agg (cv V M)
  | 3 => LfR B w x v
  | 4 => ∃ u, v = .agg (leafV x u) ∧ LfR B w x u
  | 5 => LeavesOwn B w v [x]
  | _ => True
theorem t2_mono (B : Nat) (V M : List Int) (vl : Value) (x : LeafM) : ∀ j v w w', t2_V B V M vl x j v w → Below w.heap.size w w' → t2_V B V M vl x j v w' := by
  intro j v w w' h hb
  revert h
  unfold t2_V
  split <;> intro h <;> first
    | exact h
    | exact LfR.below _ _ _ _ hb h
    | exact NOwn.below LfR.below h hb
    | (obtain ⟨u, h1, h2⟩ := h
       exact ⟨u, h1, LfR.below _ _ _ _ hb h2⟩)
set_option maxHeartbeats 4000000 in
theorem t2_region {id : Nat} {Q : Exit → Act → World → Prop} {a0 : Act} {w0 : World} (hs : 32 ≤ a0.tmps.size) (B p : Nat) (V M : List Int) (hV : Byt V) (hM : Byt M) (l : List RuleM) (hl0 : ∀ r ∈ l, okR8 r) (hn1 : l.length ≤ 100000) (vl : Value) (hl : RulesAt w0 vl l) (hB : B ≤ w0.heap.size)
    (h0 : a0.eval (.tmp 0) = vl) (h9 : a0.eval (.tmp 9) = .pointer (some ⟨p, 0, none⟩)) (hp : w0.heap[p]? = some (.cells (cv V M) 42 (0, 0)))
    (hK : ∀ y w' v, Below w0.heap.size w0 w' → LeavesOwn B w' v [⟨(V, M), 0, 0, clipT V M l⟩] → Q .normal ((putsD t2_D y a0).put (some 10) v) w') : (Code.region id t2_ops.toArray true).wp Try.prog Q a0 w0 := by
  have hDs : ∀ d ∈ t2_D, d < a0.tmps.size := fun d hd => by
    have : d < 32 := by
      revert hd; unfold t2_D; intro hd
      simp only [List.mem_cons, List.not_mem_nil, or_false] at hd
      omega
    omega
  obtain ⟨x, hx⟩ : ∃ x : LeafM, x = ⟨(V, M), 0, 0, clipT V M l⟩ := ⟨_, rfl⟩
  have hX : okL x := by rw [hx]; exact ⟨hV, hM, clip_ok⟩
  rw [← hx] at hK
  refine region_inv 6 (t2_V B V M vl x) t2_D (by kernel_rfl) rfl (by kernel_rfl) (by decide) hDs (by kernel_rfl) (by kernel_rfl) (t2_mono B V M vl x) ?_ ?_
  · intro i o ho hi a w h
    have BW : Below w0.heap.size w0 w := (Below.refl _ _).drew.trans h.below
    have hBw : B ≤ w.heap.size := Nat.le_trans hB BW.size
    have e0 : a.eval (.tmp 0) = vl := (h.other 0 (by decide)).trans h0
    have e9 : a.eval (.tmp 9) = .pointer (some ⟨p, 0, none⟩) := (h.other 9 (by decide)).trans h9
    have bp : w.heap[p]? = some (.cells (cv V M) 42 (0, 0)) := (BW.block p (Array.getElem?_eq_some_iff.1 hp).1).trans hp
    have ca : ∀ vs W, (callFunc 48 vs).run Try.prog W = .ok (.enter 48 vs) W := fun vs W => by have hf := Try.func48; simp [go_sem]
    rcases (show i = 0 ∨ i = 1 ∨ i = 2 ∨ i = 3 ∨ i = 4 ∨ i = 5 by omega) with rfl | rfl | rfl | rfl | rfl | rfl
    · obtain rfl := Option.some.inj ho
      exact iv_val rfl rfl _ (run_loadC _ _ _ _ rfl p e9 V M bp hV.1 hM.1) rfl
    · obtain rfl := Option.some.inj ho
      exact iv_val rfl rfl vl (run_moveOp rfl _ _ _ e0) rfl
    · obtain rfl := Option.some.inj ho
      exact iv_val rfl rfl _ (run_loadC _ _ _ _ rfl p e9 V M bp hV.1 hM.1) rfl
    · obtain rfl := Option.some.inj ho
      have f1 : a.eval (.tmp 27) = vl := h.has ⟨1, .data⟩ (by simp) rfl _ 27 rfl rfl
      have f2 : a.eval (.tmp 28) = .agg (cv V M) := h.has ⟨2, .data⟩ (by simp) rfl _ 28 rfl rfl
      exact iv_call rfl rfl 48 #[vl, .agg (cv V M)] (run_callOps rfl ca _ _ _ (by simp [f1, f2])) ((rclip12_any l hl0 hn1 vl V M hV hM w (GSl.below hl BW)).mono fun e w' h => by
        obtain ⟨⟨v, rfl, h1⟩, h2⟩ := h
        exact ⟨v, rfl, h2, by rw [hx]; exact clip_leaf hV hM hBw h1⟩)
    · obtain rfl := Option.some.inj ho
      have f1 : a.eval (.tmp 26) = .agg (cv V M) := h.has ⟨0, .data⟩ (by simp) rfl _ 26 rfl rfl
      have f2 : LfR B w x (a.eval (.tmp 29)) := h.has ⟨3, .data⟩ (by simp) rfl _ 29 rfl rfl
      obtain ⟨o', m', hu⟩ := f2.slice
      refine iv_val rfl rfl (.agg (leafV x (a.eval (.tmp 29)))) (run_build12 rfl _ _ #[(0, .agg (cv V M)), (3, a.eval (.tmp 29))] (by simp only [List.map_toArray, List.map_cons, List.map_nil, f1]) _ ?_) ⟨_, rfl, f2⟩
      rw [hx]
      exact build_leaf V M _ hV.1 hM.1 ⟨_, _, _, hu⟩ _ w
    · obtain rfl := Option.some.inj ho
      obtain ⟨u, f1, hu⟩ : ∃ u, a.eval (.tmp 30) = .agg (leafV x u) ∧ LfR B w x u := h.has ⟨4, .data⟩ (by simp) rfl _ 30 rfl rfl
      refine iv_list rfl ?_
      refine wl_buildE (E := LeafE) LeafOk rfl _ rfl (leafV x u) (leafV_size hu.1 u) f1 ?_
      exact ⟨_, rfl, (Below.refl _ _).alloc (Nat.le_refl _) _, fun _ _ => one_own hBw hu⟩
  · intro a w hb hsz hdf hot hh
    have f5 : LeavesOwn B w (a.eval (.tmp 31)) [x] := hh 5 _ 31 (by decide) rfl rfl
    obtain ⟨v, hv⟩ : ∃ v, a.eval (.tmp 31) = v := ⟨_, rfl⟩
    rw [hv] at f5
    refine wpOp_assign rfl rfl _ rfl v hv (some 10) rfl ?_
    show Q .normal (a.put (some 10) v) w
    rw [puts_form hsz hdf hot hDs]
    exact hK _ w v hb f5
def t28_ops : List Oper := [
  { dst := some 121, op := .move (.tmp 10), type := 30, pos := "ref.go:104", after := #[], guard := none },
  { dst := some 122, op := .move (.tmp 18), type := 3, pos := "ref.go:104", after := #[], guard := none },
  { dst := some 123, op := .indexAddr 30 (.tmp 121) (.tmp 122), type := 0, pos := "ref.go:104", after := #[{ on := 0, ground := .data }, { on := 1, ground := .data }], guard := none },
  { dst := some 124, op := .fieldAddr 48 (.tmp 123) 0, type := 0, pos := "ref.go:104", after := #[{ on := 2, ground := .data }], guard := none },
  { dst := some 125, op := .load 42 (.tmp 124), type := 42, pos := "ref.go:104", after := #[{ on := 3, ground := .data }], guard := none },
  { dst := some 126, op := .move (.tmp 11), type := 28, pos := "ref.go:104", after := #[], guard := none },
  { dst := some 127, op := .move (.tmp 18), type := 3, pos := "ref.go:104", after := #[], guard := none },
  { dst := some 128, op := .indexAddr 28 (.tmp 126) (.tmp 127), type := 0, pos := "ref.go:104", after := #[{ on := 5, ground := .data }, { on := 6, ground := .data }], guard := none },
  { dst := some 129, op := .load 3 (.tmp 128), type := 3, pos := "ref.go:104", after := #[{ on := 7, ground := .data }], guard := none },
  { dst := some 130, op := .move (.tmp 19), type := 3, pos := "ref.go:104", after := #[], guard := none },
  { dst := some 131, op := .call { callee := .value (.func 50), args := #[.tmp 125, .tmp 129, .tmp 130], argTypes := #[42, 3, 3] }, type := 42, pos := "ref.go:104", after := #[{ on := 4, ground := .data }, { on := 8, ground := .data }, { on := 9, ground := .data }], guard := none },
  { dst := some 20, op := .alloc 42, type := 0, pos := "ref.go:104", after := #[], guard := none },
  { dst := none, op := .store 42 (.tmp 20) (.tmp 131), type := 0, pos := "ref.go:104", after := #[{ on := 11, ground := .data }, { on := 10, ground := .data }, { on := 10, ground := .chain }, { on := 0, ground := .phase }, { on := 1, ground := .phase }, { on := 2, ground := .phase }, { on := 3, ground := .phase }, { on := 4, ground := .phase }, { on := 5, ground := .phase }, { on := 6, ground := .phase }, { on := 7, ground := .phase }, { on := 8, ground := .phase }, { on := 9, ground := .phase }, { on := 10, ground := .phase }, { on := 11, ground := .phase }], guard := none }]
def t28_D : List Nat := [121, 122, 123, 124, 125, 126, 127, 128, 129, 130, 131, 20]
def t28_V (H : Nat) (v10 v11 : Value) (i v : Nat) (g off g2 o2 : Nat) (V M AV AM : List Int) (z : Nat) (j : Nat) (y : Value) (w : World) : Prop :=
  match j with
  | 0 => y = v10
  | 1 => y = .int .i64 (i : Int)
  | 2 => y = .pointer (some ⟨g, off + i * 29, none⟩)
  | 3 => y = .pointer (some ⟨g, off + i * 29, none⟩)
  | 4 => y = .agg (cv V M)
  | 5 => y = v11
  | 6 => y = .int .i64 (i : Int)
  | 7 => y = .pointer (some ⟨g2, o2 + i, none⟩)
  | 8 => y = .int .i64 (z : Int)
  | 9 => y = .int .i64 (v : Int)
  | 10 => y = .agg (cv AV AM)
  | 11 => ∃ gq, y = .pointer (some ⟨gq, 0, none⟩) ∧ H ≤ gq ∧ w.heap[gq]? = some (.cells zeroC 42 (0, 0))
  | _ => True
theorem t28_mono (H : Nat) (v10 v11 : Value) (i v : Nat) (g off g2 o2 : Nat) (V M AV AM : List Int) (z : Nat) : ∀ j y w w', t28_V H v10 v11 i v g off g2 o2 V M AV AM z j y w → Below w.heap.size w w' → t28_V H v10 v11 i v g off g2 o2 V M AV AM z j y w' := by
  intro j y w w' h hb
  revert h
  unfold t28_V
  split <;> intro h <;> first
    | exact h
    | (obtain ⟨gn, h1, h2, h3⟩ := h
       exact ⟨gn, h1, h2, (hb.block gn (Array.getElem?_eq_some_iff.1 h3).1).trans h3⟩)
set_option maxHeartbeats 4000000 in
theorem t28_region {id : Nat} {Q : Exit → Act → World → Prop} {a0 : Act} {w0 : World} (hs : 132 ≤ a0.tmps.size) (i v n cap n2 c2 g off g2 o2 : Nat) (V M AV AM : List Int) (hV : V.length = 13) (hM : M.length = 13) (hAV : AV.length = 13) (hAM : AM.length = 13) (z : Nat) (cur cur2 : Array Value) (t t2 : TypeId) (fr fr2 : Nat × Nat)
    (h10 : a0.eval (.tmp 10) = .slice (some ⟨g, off, none⟩) n cap) (h11 : a0.eval (.tmp 11) = .slice (some ⟨g2, o2, none⟩) n2 c2) (h18 : a0.eval (.tmp 18) = .int .i64 (i : Int)) (h19 : a0.eval (.tmp 19) = .int .i64 (v : Int)) (hi1 : i < n) (hi2 : i < n2)
    (hg : w0.heap[g]? = some (.cells cur t fr)) (hc : ∀ j, j < 26 → cur[off + i * 29 + j]? = (cv V M)[j]?) (hg2 : w0.heap[g2]? = some (.cells cur2 t2 fr2)) (hc2 : cur2[o2 + i]? = some (.int .i64 (z : Int)))
    (HF : ∀ W, Calls Try.prog 50 #[.agg (cv V M), .int .i64 (z : Int), .int .i64 (v : Int)] W fun e w' => e = .returned (.agg (cv AV AM)) ∧ Below W.heap.size W w')
    (hK : ∀ y w' gq, y 20 = .pointer (some ⟨gq, 0, none⟩) → Below w0.heap.size w0 w' → w0.heap.size ≤ gq → w'.heap[gq]? = some (.cells (cv AV AM) 42 (0, 0)) → Q .normal (putsD t28_D y a0) w') : (Code.region id t28_ops.toArray true).wp Try.prog Q a0 w0 := by
  have hDs : ∀ d ∈ t28_D, d < a0.tmps.size := fun d hd => by
    have : d < 132 := by
      revert hd; unfold t28_D; intro hd
      simp only [List.mem_cons, List.not_mem_nil, or_false] at hd
      omega
    omega
  refine region_inv 12 (t28_V w0.heap.size (.slice (some ⟨g, off, none⟩) n cap) (.slice (some ⟨g2, o2, none⟩) n2 c2) i v g off g2 o2 V M AV AM z) t28_D (by kernel_rfl) rfl (by kernel_rfl) (by decide) hDs (by kernel_rfl) (by kernel_rfl) (t28_mono _ _ _ _ _ _ _ _ _ _ _ _ _ _) ?_ ?_
  · intro q o ho hq a w h
    have BW : Below w0.heap.size w0 w := (Below.refl _ _).drew.trans h.below
    have e10 := (h.other 10 (by decide)).trans h10
    have e11 := (h.other 11 (by decide)).trans h11
    have e18 := (h.other 18 (by decide)).trans h18
    have e19 := (h.other 19 (by decide)).trans h19
    have bg := (BW.block g (Array.getElem?_eq_some_iff.1 hg).1).trans hg
    have bg2 := (BW.block g2 (Array.getElem?_eq_some_iff.1 hg2).1).trans hg2
    have i1 : (Instr.indexAt 30 (.slice (some ⟨g, off, none⟩) n cap) (.int .i64 (i : Int))).run Try.prog w = .ok (.pointer (some ⟨g, off + i * 29, none⟩)) w := by
      simp [go_sem, Try.underlying30]; omega
    have i2 : (Instr.indexAt 28 (.slice (some ⟨g2, o2, none⟩) n2 c2) (.int .i64 (i : Int))).run Try.prog w = .ok (.pointer (some ⟨g2, o2 + i, none⟩)) w := by
      simp [go_sem, Try.underlying28]; omega
    have f0 : (Instr.fieldAt 48 (.pointer (some ⟨g, off + i * 29, none⟩)) 0).run Try.prog w = .ok (.pointer (some ⟨g, off + i * 29, none⟩)) w := by simp [go_sem]
    have c0 : w.cell? ⟨g2, o2 + i, none⟩ = some (.int .i64 (z : Int)) := by rw [cell_of_row _ _ _ _ _ _ bg2]; exact hc2
    have ca : ∀ vs W, (callFunc 50 vs).run Try.prog W = .ok (.enter 50 vs) W := fun vs W => by have hf := Try.func50; simp [go_sem]
    rcases (show q = 0 ∨ q = 1 ∨ q = 2 ∨ q = 3 ∨ q = 4 ∨ q = 5 ∨ q = 6 ∨ q = 7 ∨ q = 8 ∨ q = 9 ∨ q = 10 ∨ q = 11 by omega) with rfl | rfl | rfl | rfl | rfl | rfl | rfl | rfl | rfl | rfl | rfl | rfl
    · obtain rfl := Option.some.inj ho
      exact iv_val rfl rfl _ (run_moveOp rfl _ _ _ e10) rfl
    · obtain rfl := Option.some.inj ho
      exact iv_val rfl rfl _ (run_moveOp rfl _ _ _ e18) rfl
    · obtain rfl := Option.some.inj ho
      have g1 : a.eval (.tmp 121) = _ := h.has ⟨0, .data⟩ (by simp) rfl _ 121 rfl rfl
      have g2 : a.eval (.tmp 122) = _ := h.has ⟨1, .data⟩ (by simp) rfl _ 122 rfl rfl
      exact iv_val rfl rfl _ (run_index12 rfl _ _ _ _ _ g1 g2 i1) rfl
    · obtain rfl := Option.some.inj ho
      have g1 : a.eval (.tmp 123) = .pointer (some ⟨g, off + i * 29, none⟩) := h.has ⟨2, .data⟩ (by simp) rfl _ 123 rfl rfl
      exact iv_val rfl rfl _ (run_fieldOp rfl _ _ _ ((congrArg (fun y => (Instr.fieldAt 48 y 0).run Try.prog w) g1).trans f0)) rfl
    · obtain rfl := Option.some.inj ho
      have g1 : a.eval (.tmp 124) = .pointer (some ⟨g, off + i * 29, none⟩) := h.has ⟨3, .data⟩ (by simp) rfl _ 124 rfl rfl
      refine iv_list rfl ?_
      refine wl_loadCw rfl _ rfl g (off + i * 29) g1 cur t fr V M hV hM bg hc ?_
      exact ⟨_, rfl, Below.refl _ _, fun _ _ => rfl⟩
    · obtain rfl := Option.some.inj ho
      exact iv_val rfl rfl _ (run_moveOp rfl _ _ _ e11) rfl
    · obtain rfl := Option.some.inj ho
      exact iv_val rfl rfl _ (run_moveOp rfl _ _ _ e18) rfl
    · obtain rfl := Option.some.inj ho
      have g1 : a.eval (.tmp 126) = _ := h.has ⟨5, .data⟩ (by simp) rfl _ 126 rfl rfl
      have g2 : a.eval (.tmp 127) = _ := h.has ⟨6, .data⟩ (by simp) rfl _ 127 rfl rfl
      exact iv_val rfl rfl _ (run_index12 rfl _ _ _ _ _ g1 g2 i2) rfl
    · obtain rfl := Option.some.inj ho
      have g1 : a.eval (.tmp 128) = .pointer (some ⟨g2, o2 + i, none⟩) := h.has ⟨7, .data⟩ (by simp) rfl _ 128 rfl rfl
      exact iv_val rfl rfl _ (run_loadOp rfl _ _ _ _ g1 (load_int12 _ _ _ c0)) rfl
    · obtain rfl := Option.some.inj ho
      exact iv_val rfl rfl _ (run_moveOp rfl _ _ _ e19) rfl
    · obtain rfl := Option.some.inj ho
      have g1 : a.eval (.tmp 125) = .agg (cv V M) := h.has ⟨4, .data⟩ (by simp) rfl _ 125 rfl rfl
      have g2 : a.eval (.tmp 129) = .int .i64 (z : Int) := h.has ⟨8, .data⟩ (by simp) rfl _ 129 rfl rfl
      have g3 : a.eval (.tmp 130) = .int .i64 (v : Int) := h.has ⟨9, .data⟩ (by simp) rfl _ 130 rfl rfl
      exact iv_call rfl rfl 50 #[.agg (cv V M), .int .i64 (z : Int), .int .i64 (v : Int)] (run_callOps rfl ca _ _ _ (by simp [g1, g2, g3])) ((HF w).mono fun e w' h => ⟨_, h.1, h.2, rfl⟩)
    · obtain rfl := Option.some.inj ho
      refine wpOp_allocC rfl rfl rfl _ rfl ⟨_, rfl, (Below.refl _ _).alloc (Nat.le_refl _) _, fun _ _ => ⟨_, rfl, BW.size, heap_new _ _ _ rfl⟩⟩
  · intro a w hb hsz hdf hot hh
    have g1 : a.eval (.tmp 131) = .agg (cv AV AM) := hh 10 _ 131 (by decide) rfl rfl
    obtain ⟨gq, g2, g3, g4⟩ : ∃ gq, a.eval (.tmp 20) = .pointer (some ⟨gq, 0, none⟩) ∧ w0.heap.size ≤ gq ∧ w.heap[gq]? = some (.cells zeroC 42 (0, 0)) := hh 11 _ 20 (by decide) rfl rfl
    refine wpOp_storeC rfl rfl _ _ rfl gq AV AM g2 g1 _ g4 rfl hAV hAM none rfl ?_
    show Q .normal a _
    rw [puts_form hsz hdf hot hDs]
    exact hK _ _ gq g2 (below_setRow hb g3 _) g3 (setRow_heap _ _ _ _ _ _ g4)
def t29_ops : List Oper := [
  { dst := some 132, op := .load 42 (.tmp 20), type := 42, pos := "ref.go:105", after := #[], guard := none },
  { dst := some 133, op := .move (.tmp 10), type := 30, pos := "ref.go:105", after := #[], guard := none },
  { dst := some 134, op := .move (.tmp 18), type := 3, pos := "ref.go:105", after := #[], guard := none },
  { dst := some 135, op := .indexAddr 30 (.tmp 133) (.tmp 134), type := 0, pos := "ref.go:105", after := #[{ on := 1, ground := .data }, { on := 2, ground := .data }], guard := none },
  { dst := some 136, op := .fieldAddr 48 (.tmp 135) 3, type := 0, pos := "ref.go:105", after := #[{ on := 3, ground := .data }], guard := none },
  { dst := some 137, op := .load 27 (.tmp 136), type := 27, pos := "ref.go:105", after := #[{ on := 4, ground := .data }], guard := none },
  { dst := some 138, op := .load 42 (.tmp 20), type := 42, pos := "ref.go:105", after := #[], guard := none },
  { dst := some 139, op := .call { callee := .value (.func 48), args := #[.tmp 137, .tmp 138], argTypes := #[27, 42] }, type := 27, pos := "ref.go:105", after := #[{ on := 5, ground := .data }, { on := 6, ground := .data }], guard := none },
  { dst := some 140, op := .build 48 #[(0, .tmp 132), (3, .tmp 139)], type := 48, pos := "ref.go:105", after := #[{ on := 0, ground := .data }, { on := 7, ground := .data }], guard := none },
  { dst := some 21, op := .alloc 48, type := 0, pos := "ref.go:105", after := #[], guard := none },
  { dst := none, op := .store 48 (.tmp 21) (.tmp 140), type := 0, pos := "ref.go:105", after := #[{ on := 9, ground := .data }, { on := 8, ground := .data }, { on := 7, ground := .chain }, { on := 0, ground := .phase }, { on := 1, ground := .phase }, { on := 2, ground := .phase }, { on := 3, ground := .phase }, { on := 4, ground := .phase }, { on := 5, ground := .phase }, { on := 6, ground := .phase }, { on := 7, ground := .phase }, { on := 8, ground := .phase }, { on := 9, ground := .phase }], guard := none }]
def t29_D : List Nat := [132, 133, 134, 135, 136, 137, 138, 139, 140, 21]
def t29_V (H B : Nat) (v10 vr : Value) (i : Nat) (g off : Nat) (V M : List Int) (x : LeafM) (j : Nat) (y : Value) (w : World) : Prop :=
  match j with
  | 0 => y = .agg (cv V M)
  | 1 => y = v10
  | 2 => y = .int .i64 (i : Int)
  | 3 => y = .pointer (some ⟨g, off + i * 29, none⟩)
  | 4 => y = .pointer (some ⟨g, off + i * 29 + 28, none⟩)
  | 5 => y = vr
  | 6 => y = .agg (cv V M)
  | 7 => LfR B w x y
  | 8 => ∃ u, y = .agg (leafV x u) ∧ LfR B w x u
  | 9 => ∃ gq, y = .pointer (some ⟨gq, 0, none⟩) ∧ H ≤ gq ∧ w.heap[gq]? = some (.cells LeafE.zero LeafE.elem (0, 0))
  | _ => True
theorem t29_mono (H B : Nat) (v10 vr : Value) (i : Nat) (g off : Nat) (V M : List Int) (x : LeafM) : ∀ j y w w', t29_V H B v10 vr i g off V M x j y w → Below w.heap.size w w' → t29_V H B v10 vr i g off V M x j y w' := by
  intro j y w w' h hb
  revert h
  unfold t29_V
  split <;> intro h <;> first
    | exact h
    | exact LfR.below _ _ _ _ hb h
    | (obtain ⟨u, h1, h2⟩ := h
       exact ⟨u, h1, LfR.below _ _ _ _ hb h2⟩)
    | (obtain ⟨gn, h1, h2, h3⟩ := h
       exact ⟨gn, h1, h2, (hb.block gn (Array.getElem?_eq_some_iff.1 h3).1).trans h3⟩)
set_option maxHeartbeats 4000000 in
theorem t29_region {id : Nat} {Q : Exit → Act → World → Prop} {a0 : Act} {w0 : World} (hs : 141 ≤ a0.tmps.size) (B p i n cap g off : Nat) (V M : List Int) (hV : Byt V) (hM : Byt M) (l : List RuleM) (hl0 : ∀ r ∈ l, okR8 r) (hn1 : l.length ≤ 100000) (vr : Value) (hl : RulesAt w0 vr l) (hB : B ≤ w0.heap.size) (cur : Array Value) (t : TypeId) (fr : Nat × Nat)
    (h20 : a0.eval (.tmp 20) = .pointer (some ⟨p, 0, none⟩)) (hp : w0.heap[p]? = some (.cells (cv V M) 42 (0, 0))) (h10 : a0.eval (.tmp 10) = .slice (some ⟨g, off, none⟩) n cap) (h18 : a0.eval (.tmp 18) = .int .i64 (i : Int)) (hi1 : i < n)
    (hg : w0.heap[g]? = some (.cells cur t fr)) (hc : cur[off + i * 29 + 28]? = some vr)
    (hK : ∀ y w' gq u, y 21 = .pointer (some ⟨gq, 0, none⟩) → Below w0.heap.size w0 w' → w0.heap.size ≤ gq → w'.heap[gq]? = some (.cells (leafV ⟨(V, M), 0, 0, clipT V M l⟩ u) LeafE.elem (0, 0)) → LfR B w' ⟨(V, M), 0, 0, clipT V M l⟩ u → Q .normal (putsD t29_D y a0) w') : (Code.region id t29_ops.toArray true).wp Try.prog Q a0 w0 := by
  have hDs : ∀ d ∈ t29_D, d < a0.tmps.size := fun d hd => by
    have : d < 141 := by
      revert hd; unfold t29_D; intro hd
      simp only [List.mem_cons, List.not_mem_nil, or_false] at hd
      omega
    omega
  obtain ⟨x, hx⟩ : ∃ x : LeafM, x = ⟨(V, M), 0, 0, clipT V M l⟩ := ⟨_, rfl⟩
  have hX : okL x := by rw [hx]; exact ⟨hV, hM, clip_ok⟩
  rw [← hx] at hK
  refine region_inv 10 (t29_V w0.heap.size B (.slice (some ⟨g, off, none⟩) n cap) vr i g off V M x) t29_D (by kernel_rfl) rfl (by kernel_rfl) (by decide) hDs (by kernel_rfl) (by kernel_rfl) (t29_mono _ _ _ _ _ _ _ _ _ _) ?_ ?_
  · intro q o ho hq a w h
    have BW : Below w0.heap.size w0 w := (Below.refl _ _).drew.trans h.below
    have hBw : B ≤ w.heap.size := Nat.le_trans hB BW.size
    have e10 := (h.other 10 (by decide)).trans h10
    have e18 := (h.other 18 (by decide)).trans h18
    have e20 := (h.other 20 (by decide)).trans h20
    have bg := (BW.block g (Array.getElem?_eq_some_iff.1 hg).1).trans hg
    have bp := (BW.block p (Array.getElem?_eq_some_iff.1 hp).1).trans hp
    have i1 : (Instr.indexAt 30 (.slice (some ⟨g, off, none⟩) n cap) (.int .i64 (i : Int))).run Try.prog w = .ok (.pointer (some ⟨g, off + i * 29, none⟩)) w := by
      simp [go_sem, Try.underlying30]; omega
    have f3 : (Instr.fieldAt 48 (.pointer (some ⟨g, off + i * 29, none⟩)) 3).run Try.prog w = .ok (.pointer (some ⟨g, off + i * 29 + 28, none⟩)) w := by simp [go_sem]
    have c28 : w.cell? ⟨g, off + i * 29 + 28, none⟩ = some vr := by rw [cell_of_row _ _ _ _ _ _ bg]; exact hc
    have ca : ∀ vs W, (callFunc 48 vs).run Try.prog W = .ok (.enter 48 vs) W := fun vs W => by have hf := Try.func48; simp [go_sem]
    rcases (show q = 0 ∨ q = 1 ∨ q = 2 ∨ q = 3 ∨ q = 4 ∨ q = 5 ∨ q = 6 ∨ q = 7 ∨ q = 8 ∨ q = 9 by omega) with rfl | rfl | rfl | rfl | rfl | rfl | rfl | rfl | rfl | rfl
    · obtain rfl := Option.some.inj ho
      exact iv_val rfl rfl _ (run_loadC _ _ _ _ rfl p e20 V M bp hV.1 hM.1) rfl
    · obtain rfl := Option.some.inj ho
      exact iv_val rfl rfl _ (run_moveOp rfl _ _ _ e10) rfl
    · obtain rfl := Option.some.inj ho
      exact iv_val rfl rfl _ (run_moveOp rfl _ _ _ e18) rfl
    · obtain rfl := Option.some.inj ho
      have g1 : a.eval (.tmp 133) = _ := h.has ⟨1, .data⟩ (by simp) rfl _ 133 rfl rfl
      have g2 : a.eval (.tmp 134) = _ := h.has ⟨2, .data⟩ (by simp) rfl _ 134 rfl rfl
      exact iv_val rfl rfl _ (run_index12 rfl _ _ _ _ _ g1 g2 i1) rfl
    · obtain rfl := Option.some.inj ho
      have g1 : a.eval (.tmp 135) = .pointer (some ⟨g, off + i * 29, none⟩) := h.has ⟨3, .data⟩ (by simp) rfl _ 135 rfl rfl
      exact iv_val rfl rfl _ (run_fieldOp rfl _ _ _ ((congrArg (fun y => (Instr.fieldAt 48 y 3).run Try.prog w) g1).trans f3)) rfl
    · obtain rfl := Option.some.inj ho
      have g1 : a.eval (.tmp 136) = .pointer (some ⟨g, off + i * 29 + 28, none⟩) := h.has ⟨4, .data⟩ (by simp) rfl _ 136 rfl rfl
      exact iv_val rfl rfl _ (run_loadOp rfl _ _ _ _ g1 (load_rules _ _ _ c28)) rfl
    · obtain rfl := Option.some.inj ho
      exact iv_val rfl rfl _ (run_loadC _ _ _ _ rfl p e20 V M bp hV.1 hM.1) rfl
    · obtain rfl := Option.some.inj ho
      have f1 : a.eval (.tmp 137) = vr := h.has ⟨5, .data⟩ (by simp) rfl _ 137 rfl rfl
      have f2 : a.eval (.tmp 138) = .agg (cv V M) := h.has ⟨6, .data⟩ (by simp) rfl _ 138 rfl rfl
      exact iv_call rfl rfl 48 #[vr, .agg (cv V M)] (run_callOps rfl ca _ _ _ (by simp [f1, f2])) ((rclip12_any l hl0 hn1 vr V M hV hM w (GSl.below hl BW)).mono fun e w' h => by
        obtain ⟨⟨v, rfl, h1⟩, h2⟩ := h
        exact ⟨v, rfl, h2, by rw [hx]; exact clip_leaf hV hM hBw h1⟩)
    · obtain rfl := Option.some.inj ho
      have f1 : a.eval (.tmp 132) = .agg (cv V M) := h.has ⟨0, .data⟩ (by simp) rfl _ 132 rfl rfl
      have f2 : LfR B w x (a.eval (.tmp 139)) := h.has ⟨7, .data⟩ (by simp) rfl _ 139 rfl rfl
      obtain ⟨o', m', hu⟩ := f2.slice
      refine iv_val rfl rfl (.agg (leafV x (a.eval (.tmp 139)))) (run_build12 rfl _ _ #[(0, .agg (cv V M)), (3, a.eval (.tmp 139))] (by simp only [List.map_toArray, List.map_cons, List.map_nil, f1]) _ ?_) ⟨_, rfl, f2⟩
      rw [hx]
      exact build_leaf V M _ hV.1 hM.1 ⟨_, _, _, hu⟩ _ w
    · obtain rfl := Option.some.inj ho
      exact iv_alloc LeafOk rfl rfl rfl ⟨_, rfl, BW.size, heap_new _ _ _ rfl⟩
  · intro a w hb hsz hdf hot hh
    obtain ⟨u, g1, hu⟩ : ∃ u, a.eval (.tmp 140) = .agg (leafV x u) ∧ LfR B w x u := hh 8 _ 140 (by decide) rfl rfl
    obtain ⟨gq, g2, g3, g4⟩ : ∃ gq, a.eval (.tmp 21) = .pointer (some ⟨gq, 0, none⟩) ∧ w0.heap.size ≤ gq ∧ w.heap[gq]? = some (.cells LeafE.zero LeafE.elem (0, 0)) := hh 9 _ 21 (by decide) rfl rfl
    obtain ⟨o', m', hu'⟩ := hu.slice
    refine wpOp_of_list rfl ?_
    refine wl_storeE (E := LeafE) LeafOk rfl _ _ rfl gq (leafV x u) (leaf_fits hX ⟨_, _, _, hu'⟩) g2 g1 _ g4 rfl _ rfl ?_
    show Q .normal a _
    rw [puts_form hsz hdf hot hDs]
    refine hK _ _ gq u g2 (below_setRow hb g3 _) g3 (setRow_heap _ _ _ _ _ _ g4) ⟨hu.1, own_setRow12 hu.2 (fun j hj hjq => ?_) _⟩
    subst hjq
    obtain ⟨_, ⟨h1, _⟩ | ⟨g', cap', cur', h1, _, h2, _⟩⟩ := hu.2
    · rw [h1] at hj; simp [Value.ownBlock] at hj
    · rw [h1] at hj
      simp only [Value.ownBlock, Option.some.injEq] at hj
      subst hj
      rw [g4] at h2
      simp [LeafE] at h2
end Go.Proofs.Ytpbinkmeldkehaa
namespace Go.Proofs.Ytpbinkmeldkehaa
open Go Go.Lib Go.RowKit Ieee
set_option maxRecDepth 20000

/-! What the reference's Tree holds in its loops. -/
abbrev bvT (b : Nat) (G : Int) (x : LeafM) : Value := .int .i64 (bitI b G x)
structure TrS (b : Nat) (G : Int) (B : Nat) (w : World) (v10 v11 v16 v17 : Value) (out nx : List LeafM) (mx : List Value) : Prop where
  o : LeavesOwn B w v10 out
  bits : VOwn 3 B w v11 (out.map (bvT b G))
  n : LeavesOwn B w v16 nx
  m : VOwn 3 B w v17 mx
  ap : ∀ g, v16.ownBlock = some g → v10.ownBlock ≠ some g
  ap2 : ∀ g, v17.ownBlock = some g → v11.ownBlock ≠ some g
theorem TrS.below {b : Nat} {G : Int} {B : Nat} {w w' : World} {v10 v11 v16 v17 : Value} {out nx : List LeafM} {mx : List Value} (h : TrS b G B w v10 v11 v16 v17 out nx mx) (hb : Below w.heap.size w w') : TrS b G B w' v10 v11 v16 v17 out nx mx :=
  ⟨NOwn.below LfR.below h.o hb, h.bits.below hb, NOwn.below LfR.below h.n hb, h.m.below hb, h.ap, h.ap2⟩
theorem int_ne_leaf : (3 : Nat) ≠ 48 := by decide
theorem int_ne_rule : (3 : Nat) ≠ 44 := by decide
theorem TrS.addN {b : Nat} {G : Int} {B : Nat} {w w' : World} {v10 v11 v16 v17 v' : Value} {out nx nx' : List LeafM} {mx : List Value} (h : TrS b G B w v10 v11 v16 v17 out nx mx) (hgr : w.grownBy w' v16.ownBlock) (h' : LeavesOwn B w' v' nx') (hob : v'.ownBlock = v16.ownBlock ∨ v'.ownBlock = some w.heap.size) : TrS b G B w' v10 v11 v' v17 out nx' mx := by
  obtain ⟨n, xs, hr⟩ := own_row12 h.n
  refine ⟨leaves_grown hr hgr h.ap h.o, h.bits.grown hgr (fun g hg => own_apart h.bits hr int_ne_leaf g hg), h', h.m.grown hgr (fun g hg => own_apart h.m hr int_ne_leaf g hg), fun g hg h2 => ?_, h.ap2⟩
  rcases hob with e | e
  · rw [e] at hg; exact h.ap g hg h2
  · rw [e] at hg
    obtain rfl : w.heap.size = g := by simpa using hg
    exact absurd (own_lt12 h.o _ h2) (Nat.lt_irrefl _)
theorem LfR.grownI {B B' : Nat} {w w' : World} {v : Value} {L : List Value} (hv : VOwn 3 B' w v L) (hgr : w.grownBy w' v.ownBlock) {x : LeafM} {u : Value} (h : LfR B w x u) : LfR B w' x u :=
  ⟨h.1, own_grown hgr h.2 (own_apart hv h.2 int_ne_rule)⟩
theorem TrS.addM {b : Nat} {G : Int} {B : Nat} {w w' : World} {v10 v11 v16 v17 v' : Value} {out nx : List LeafM} {mx mx' : List Value} (h : TrS b G B w v10 v11 v16 v17 out nx mx) (hgr : w.grownBy w' v17.ownBlock) (h' : VOwn 3 B w' v' mx') (hob : v'.ownBlock = v17.ownBlock ∨ v'.ownBlock = some w.heap.size) : TrS b G B w' v10 v11 v16 v' out nx mx' := by
  obtain ⟨n, xs, hr⟩ := own_row12 h.n
  obtain ⟨n2, xs2, hr2⟩ := own_row12 h.o
  refine ⟨NOwn.grown hgr h.o (own_apart h.m hr2 int_ne_leaf) fun _ _ hq => LfR.grownI h.m hgr hq, h.bits.grown hgr (fun g hg h2 => h.ap2 g h2 hg), NOwn.grown hgr h.n (own_apart h.m hr int_ne_leaf) fun _ _ hq => LfR.grownI h.m hgr hq, h', h.ap, fun g hg h2 => ?_⟩
  rcases hob with e | e
  · rw [e] at hg; exact h.ap2 g hg h2
  · rw [e] at hg
    obtain rfl : w.heap.size = g := by simpa using hg
    exact absurd (h.bits.ge _ h2).2 (Nat.lt_irrefl _)
theorem vown1 (w : World) (B : Nat) (hB : B ≤ w.heap.size) (u : Value) (ty : TypeId) : VOwn ty B (w.alloc (.cells #[u] ty)) (.slice (some ⟨w.heap.size, 0, none⟩) 1 1) [u] := by
  refine ⟨by simp, .inr ⟨_, 1, #[u], rfl, hB, heap_new _ _ _ rfl, Nat.le_refl _, by unfold maxLen; omega, by simp, ?_⟩⟩
  simp
/-- The leaves behind one round, so far. -/
def nxT (cuts : List LeafM) (p : Nat) (out : List LeafM) : Nat → List LeafM
  | 0 => []
  | k + 1 => nxT cuts p out k ++ (if k = p then cuts else (out[k]?).toList)
theorem nx_lo (cuts : List LeafM) (p : Nat) (out : List LeafM) : ∀ k, k ≤ p → nxT cuts p out k = out.take k
  | 0, _ => rfl
  | k + 1, h => by rw [nxT, nx_lo cuts p out k (by omega), if_neg (by omega), List.take_add_one]
theorem nx_hi (cuts : List LeafM) (p : Nat) (out : List LeafM) : ∀ j, nxT cuts p out (p + 1 + j) = out.take p ++ cuts ++ (out.drop (p + 1)).take j
  | 0 => by rw [Nat.add_zero, nxT, nx_lo cuts p out p (Nat.le_refl _), if_pos rfl]; simp
  | j + 1 => by rw [← Nat.add_assoc, nxT, nx_hi cuts p out j, if_neg (by omega), List.take_add_one, List.getElem?_drop, List.append_assoc, List.append_assoc]
theorem nx_all {cuts : List LeafM} {p : Nat} {out : List LeafM} (hp : p < out.length) : nxT cuts p out out.length = out.take p ++ cuts ++ out.drop (p + 1) := by
  have := nx_hi cuts p out (out.length - (p + 1))
  rw [show p + 1 + (out.length - (p + 1)) = out.length by omega] at this
  rw [this, List.take_of_length_le (l := out.drop (p + 1)) (by rw [List.length_drop]; omega)]
theorem nx_len (cuts : List LeafM) (p : Nat) (out : List LeafM) : ∀ k, (nxT cuts p out k).length ≤ k + cuts.length
  | 0 => by simp [nxT]
  | k + 1 => by
    by_cases h : k = p
    · subst h
      rw [nxT, nx_lo cuts k out k (Nat.le_refl _), if_pos rfl, List.length_append, List.length_take]
      omega
    · have ih := nx_len cuts p out k
      rw [nxT, if_neg h, List.length_append]
      have : (out[k]?).toList.length ≤ 1 := by cases out[k]? <;> simp
      omega
theorem nx_step {cuts : List LeafM} {p : Nat} {out : List LeafM} {k : Nat} {x : LeafM} (h : k ≠ p) (hx : out[k]? = some x) : nxT cuts p out (k + 1) = nxT cuts p out k ++ [x] := by
  rw [nxT, if_neg h, hx]; rfl
theorem nx_cut {cuts : List LeafM} {p : Nat} {out : List LeafM} : nxT cuts p out (p + 1) = nxT cuts p out p ++ cuts := by
  rw [nxT, if_pos rfl]
theorem cuts_of {b : Nat} {G : Int} {x : LeafM} {i : Nat} (h : bitO b G x = some i) : cutsT b G x = [halfL x i false, halfL x i true] := by unfold cutsT; rw [h]
theorem bitI_none {b : Nat} {G : Int} {x : LeafM} (h : bitO b G x = none) : bitI b G x = -1 := by unfold bitI; rw [h]
theorem bitI_some {b : Nat} {G : Int} {x : LeafM} {i : Nat} (h : bitO b G x = some i) : bitI b G x = (i : Int) := by unfold bitI; rw [h]
theorem bitO_low {b : Nat} {G : Int} {x : LeafM} (h : ¬ G < (x.rules.length : Int)) : bitO b G x = none := by unfold bitO; rw [if_neg h]
theorem bitO_no {b : Nat} {G : Int} {x : LeafM} (h : (bestO x.cube.1 x.cube.2 x.rules b 104).isSome = false) : bitO b G x = none := by
  unfold bitO
  cases hs : bestO x.cube.1 x.cube.2 x.rules b 104 with
  | none => simp
  | some p => rw [hs] at h; cases h
theorem bitO_yes {b : Nat} {G : Int} {x : LeafM} (hG : G < (x.rules.length : Int)) (h : (bestO x.cube.1 x.cube.2 x.rules b 104).isSome = true) : bitO b G x = some (bI (bestO x.cube.1 x.cube.2 x.rules b 104)) := by
  unfold bitO
  rw [if_pos hG]
  cases hs : bestO x.cube.1 x.cube.2 x.rules b 104 with
  | none => rw [hs] at h; cases h
  | some p => rfl
/-- A pick as the loop tells it. -/
def pkI (s : Option Nat) : Int := match s with | none => -1 | some i => (i : Int)
def sLen (v : Value) : Nat := match v with | .slice _ n _ => n | _ => 0
theorem pick_skip {q : LeafM → Bool} {l : List LeafM} {k : Nat} {x : LeafM} (hx : l[k]? = some x) (hq : q x = false) : pickS q l (k + 1) = pickS q l k := by
  rw [pickS, hx]
  dsimp only
  cases pickS q l k with
  | none => rw [hq]; rfl
  | some i =>
    dsimp only
    cases l[i]? with
    | none => rfl
    | some y => dsimp only; rw [hq]; simp
theorem pick_first {q : LeafM → Bool} {l : List LeafM} {k : Nat} {x : LeafM} (hx : l[k]? = some x) (hq : q x = true) (h : pickS q l k = none) : pickS q l (k + 1) = some k := by
  rw [pickS, hx, h]
  dsimp only
  rw [if_pos hq]
theorem pick_more {q : LeafM → Bool} {l : List LeafM} {k i : Nat} {x y : LeafM} (hx : l[k]? = some x) (hq : q x = true) (h : pickS q l k = some i) (hy : l[i]? = some y) (hl : y.rules.length < x.rules.length) : pickS q l (k + 1) = some k := by
  rw [pickS, hx, h]
  dsimp only
  rw [hy]
  dsimp only
  rw [if_pos ⟨hq, hl⟩]
theorem pick_stay {q : LeafM → Bool} {l : List LeafM} {k i : Nat} {x y : LeafM} (hx : l[k]? = some x) (h : pickS q l k = some i) (hy : l[i]? = some y) (hl : ¬ y.rules.length < x.rules.length) : pickS q l (k + 1) = some i := by
  rw [pickS, hx, h]
  dsimp only
  rw [hy]
  dsimp only
  rw [if_neg fun h => hl h.2]
end Go.Proofs.Ytpbinkmeldkehaa
