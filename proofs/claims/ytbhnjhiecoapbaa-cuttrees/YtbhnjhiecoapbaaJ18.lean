import Derived.Test.YtbhnjhiecoapbaaJ17
namespace Go.Proofs.Ytbhnjhiecoapbaa
open Go Go.Lib Go.RowKit Ieee
set_option maxRecDepth 20000

theorem fold_size (off : Nat) (xs cs : Array Value) : (xs.zipIdx.foldl (fun cs (x : Value × Nat) => cs.setIfInBounds (off + x.2) x.1) cs).size = cs.size := by
  rw [← Array.foldl_toList]
  generalize xs.zipIdx.toList = l
  induction l generalizing cs with
  | nil => rfl
  | cons y ys ih => rw [List.foldl_cons, ih]; simp
theorem fold_pair (a b cells : Array Value) (h : a.size + b.size = cells.size) : (b.zipIdx.foldl (fun cs (x : Value × Nat) => cs.setIfInBounds (a.size + x.2) x.1) (a.zipIdx.foldl (fun cs (x : Value × Nat) => cs.setIfInBounds (0 + x.2) x.1) cells)) = a ++ b := by
  have e : ∀ (off : Nat) (xs cs : Array Value), xs.zipIdx.foldl (fun cs (x : Value × Nat) => cs.setIfInBounds (off + x.2) x.1) cs = (xs.toList.zipIdx 0).foldl (fun cs (x : Value × Nat) => cs.setIfInBounds (off + x.2) x.1) cs := fun off xs cs => by
    rw [← Array.foldl_toList]; simp
  have hsz : ∀ (off : Nat) (xs : List (Value × Nat)) (cs : Array Value), (xs.foldl (fun cs (x : Value × Nat) => cs.setIfInBounds (off + x.2) x.1) cs).size = cs.size := fun off xs => by
    induction xs with
    | nil => intro cs; rfl
    | cons y ys ih => intro cs; rw [List.foldl_cons, ih]; simp
  rw [e, e]
  apply Array.ext_getElem?
  intro k
  rw [gfold_get a.size b.toList 0 _ k (by rw [hsz]; simp; omega), gfold_get 0 a.toList 0 _ k (by simp; omega)]
  simp only [Nat.zero_add, Nat.add_zero, Array.length_toList, Nat.zero_le, true_and, Nat.sub_zero, Array.getElem?_toList]
  rw [Array.getElem?_append]
  by_cases h1 : k < a.size
  · rw [if_neg (by omega), if_pos h1, if_pos h1]
  · rw [if_neg h1, if_neg h1]
    by_cases h2 : k < a.size + b.size
    · rw [if_pos (by omega)]
    · rw [if_neg (by omega), Array.getElem?_eq_none (by omega), Array.getElem?_eq_none (by omega)]
set_option maxRecDepth 20000 in
/-- A slice of two elements. -/
theorem wl_build2E {E : El} (H : E.Ok) {ops : Array Oper} {rest : List Oper} {o : Oper} {a : Act} {w : World} {Q : Exit → Act → World → Prop} (hg : o.guard = none) (x y : Operand) (ho : o.op = .buildSlice E.slice 2 #[(0, x), (1, y)]) (cs ds : Array Value) (hcs : cs.size = E.size) (hds : ds.size = E.size) (hx : a.eval x = .agg cs) (hy : a.eval y = .agg ds)
    (h : wpList Try.prog ops Q rest (a.put o.dst (.slice (some ⟨w.heap.size, 0, none⟩) 2 2)) (w.alloc (.cells (cs ++ ds) E.elem))) : wpList Try.prog ops Q (o :: rest) a w := by
  obtain ⟨ie, hie, hz, hs, _⟩ := H.info
  refine wpList_buildSlice hg E.slice E.elem 2 _ ho (cs ++ ds) ie (.agg E.zero) H.hs hie hz (by rw [hs]; have := H.hn; omega) (by rw [hs]; have := H.hp; omega) ?_ h
  simp only [List.map_toArray, List.map_cons, List.map_nil, hx, hy, Instr.fill, hs, Nat.zero_mul, Nat.one_mul, Value.cells, hcs, hds]
  rw [if_neg (by simp; omega), if_neg (by rw [fold_size]; simp; omega)]
  congr 1
  have := fold_pair cs ds (Array.map (fun x => E.zero[x % E.zero.size]!) (Array.range (2 * E.size))) (by rw [hcs, hds]; simp; omega)
  rw [hcs] at this
  exact this
/-- Two leaves in a new row. -/
theorem two_own {B : Nat} {w : World} {x y : LeafM} {u v : Value} (hB : B ≤ w.heap.size) (hx : LfR B w x u) (hy : LfR B w y v) : LeavesOwn B (w.alloc (.cells (leafV x u ++ leafV y v) LeafE.elem)) (.slice (some ⟨w.heap.size, 0, none⟩) 2 2) [x, y] := by
  have hsx := leafV_size hx.1 u
  have hsy := leafV_size hy.1 v
  have hb : Below w.heap.size w (w.alloc (.cells (leafV x u ++ leafV y v) LeafE.elem)) := (Below.refl _ _).alloc (Nat.le_refl _) _
  have h := World.ownsRow_lit (base := B) (e := LeafE.elem) (size := 29) w (leafV x u ++ leafV y v) 2 hB (by unfold maxLen; omega) (by simp [hsx, hsy])
  refine ⟨[(x, u), (y, v)], rfl, ?_, fun p hp => ?_⟩
  · have e : gcells (fun p : LeafM × Value => leafV p.1 p.2) [(x, u), (y, v)] = (leafV x u ++ leafV y v).toList := by
      unfold gcells
      simp
    rw [e]
    exact h
  · simp only [List.mem_cons, List.not_mem_nil, or_false] at hp
    rcases hp with rfl | rfl
    · exact LfR.below _ _ _ _ hb hx
    · exact LfR.below _ _ _ _ hb hy
theorem one_own {B : Nat} {w : World} {x : LeafM} {u : Value} (hB : B ≤ w.heap.size) (hx : LfR B w x u) : LeavesOwn B (w.alloc (.cells (leafV x u) LeafE.elem)) (.slice (some ⟨w.heap.size, 0, none⟩) 1 1) [x] := by
  have hsx := leafV_size hx.1 u
  have hb : Below w.heap.size w (w.alloc (.cells (leafV x u) LeafE.elem)) := (Below.refl _ _).alloc (Nat.le_refl _) _
  have h := World.ownsRow_lit (base := B) (e := LeafE.elem) (size := 29) w (leafV x u) 1 hB (by unfold maxLen; omega) (by simp [hsx])
  refine ⟨[(x, u)], rfl, ?_, fun p hp => ?_⟩
  · have e : gcells (fun p : LeafM × Value => leafV p.1 p.2) [(x, u)] = (leafV x u).toList := by
      unfold gcells
      simp
    rw [e]
    exact h
  · simp only [List.mem_cons, List.not_mem_nil, or_false] at hp
    subst hp
    exact LfR.below _ _ _ _ hb hx
def pt_ops : List Oper := [
  { dst := some 31, op := .fieldAddr 45 (.tmp 2) 3, type := 0, pos := "cut.go:118", after := #[], guard := none },
  { dst := some 32, op := .load 22 (.tmp 31), type := 22, pos := "cut.go:118", after := #[{ on := 0, ground := .data }], guard := none },
  { dst := some 33, op := .load 26 (.tmp 7), type := 26, pos := "cut.go:118", after := #[], guard := none },
  { dst := some 34, op := .call { callee := .value (.func 35), args := #[.tmp 32, .tmp 33], argTypes := #[22, 26] }, type := 45, pos := "cut.go:118", after := #[{ on := 1, ground := .data }, { on := 2, ground := .data }], guard := none },
  { dst := some 35, op := .fieldAddr 45 (.tmp 2) 3, type := 0, pos := "cut.go:118", after := #[], guard := none },
  { dst := some 36, op := .load 22 (.tmp 35), type := 22, pos := "cut.go:118", after := #[{ on := 4, ground := .data }], guard := none },
  { dst := some 37, op := .load 26 (.tmp 8), type := 26, pos := "cut.go:118", after := #[], guard := none },
  { dst := some 38, op := .call { callee := .value (.func 35), args := #[.tmp 36, .tmp 37], argTypes := #[22, 26] }, type := 45, pos := "cut.go:118", after := #[{ on := 5, ground := .data }, { on := 6, ground := .data }, { on := 3, ground := .chain }], guard := none },
  { dst := some 39, op := .buildSlice 41 2 #[(0, .tmp 34), (1, .tmp 38)], type := 41, pos := "cut.go:118", after := #[{ on := 3, ground := .data }, { on := 7, ground := .data }], guard := none },
  { dst := some 4, op := .assign (.tmp 39), type := 41, pos := "cut.go:118", after := #[{ on := 8, ground := .data }, { on := 7, ground := .chain }, { on := 0, ground := .phase }, { on := 1, ground := .phase }, { on := 2, ground := .phase }, { on := 3, ground := .phase }, { on := 4, ground := .phase }, { on := 5, ground := .phase }, { on := 6, ground := .phase }, { on := 7, ground := .phase }, { on := 8, ground := .phase }], guard := none }]
def pt_D : List Nat := [31, 32, 33, 34, 35, 36, 37, 38, 39, 4]
def pt_V (B p : Nat) (A0 A1 AM : List Int) (vl : Value) (x y : LeafM) (i : Nat) (v : Value) (w : World) : Prop :=
  match i with
  | 0 => v = .pointer (some ⟨p, 28, none⟩)
  | 1 => v = vl
  | 2 => v = .agg (cv A0 AM)
  | 3 => ∃ u, v = .agg (leafV x u) ∧ LfR B w x u
  | 4 => v = .pointer (some ⟨p, 28, none⟩)
  | 5 => v = vl
  | 6 => v = .agg (cv A1 AM)
  | 7 => ∃ u, v = .agg (leafV y u) ∧ LfR B w y u
  | 8 => LeavesOwn B w v [x, y]
  | _ => True
theorem pt_mono (B p : Nat) (A0 A1 AM : List Int) (vl : Value) (x y : LeafM) : ∀ j v w w', pt_V B p A0 A1 AM vl x y j v w → Below w.heap.size w w' → pt_V B p A0 A1 AM vl x y j v w' := by
  intro j v w w' h hb
  revert h
  unfold pt_V
  split <;> intro h <;> first
    | exact h
    | exact NOwn.below LfR.below h hb
    | (obtain ⟨u, h1, h2⟩ := h
       exact ⟨u, h1, LfR.below _ _ _ _ hb h2⟩)
theorem load_rules (W : World) (ad : Addr) (v : Value) (h : W.cell? ad = some v) : (Instr.loadAt 22 (.pointer (some ad))).run Try.prog W = .ok v W := load_cell Try.underlying22 W ad v h
set_option maxHeartbeats 4000000 in
theorem pt_region {id : Nat} {Q : Exit → Act → World → Prop} {a0 : Act} {w0 : World} (hs : 40 ≤ a0.tmps.size) (B p q0 q1 : Nat) (A0 A1 AM : List Int) (hA0 : Byt A0) (hA1 : Byt A1) (hAM : Byt AM) (x0 : LeafM) (hx0 : okL x0) (hn1 : x0.rules.length ≤ 100000) (vl : Value) (hl : RulesAt w0 vl x0.rules) (hB : B ≤ w0.heap.size)
    (h2 : a0.eval (.tmp 2) = .pointer (some ⟨p, 0, none⟩)) (h7 : a0.eval (.tmp 7) = .pointer (some ⟨q0, 0, none⟩)) (h8 : a0.eval (.tmp 8) = .pointer (some ⟨q1, 0, none⟩))
    (hp : w0.heap[p]? = some (.cells (leafV x0 vl) 45 (0, 0))) (hq0 : w0.heap[q0]? = some (.cells (cv A0 AM) 26 (0, 0))) (hq1 : w0.heap[q1]? = some (.cells (cv A1 AM) 26 (0, 0)))
    (hK : ∀ y w' v, Below w0.heap.size w0 w' → LeavesOwn B w' v [⟨(A0, AM), 0, 0, clipT A0 AM x0.rules⟩, ⟨(A1, AM), 0, 0, clipT A1 AM x0.rules⟩] → Q .normal ((putsD pt_D y a0).put (some 4) v) w') : (Code.region id pt_ops.toArray true).wp Try.prog Q a0 w0 := by
  have hDs : ∀ d ∈ pt_D, d < a0.tmps.size := fun d hd => by
    have : d < 40 := by
      revert hd; unfold pt_D; intro hd
      simp only [List.mem_cons, List.not_mem_nil, or_false] at hd
      omega
    omega
  obtain ⟨x, hx⟩ : ∃ x : LeafM, x = ⟨(A0, AM), 0, 0, clipT A0 AM x0.rules⟩ := ⟨_, rfl⟩
  obtain ⟨y, hy⟩ : ∃ y : LeafM, y = ⟨(A1, AM), 0, 0, clipT A1 AM x0.rules⟩ := ⟨_, rfl⟩
  rw [← hx, ← hy] at hK
  have hc := (leaf_at hx0 vl).2.2.2
  refine region_inv 9 (pt_V B p A0 A1 AM vl x y) pt_D (by kernel_rfl) rfl (by kernel_rfl) (by decide) hDs (by kernel_rfl) (by kernel_rfl) (pt_mono B p A0 A1 AM vl x y) ?_ ?_
  · intro i o ho hi a w h
    have BW : Below w0.heap.size w0 w := (Below.refl _ _).drew.trans h.below
    have e2 : a.eval (.tmp 2) = .pointer (some ⟨p, 0, none⟩) := (h.other 2 (by decide)).trans h2
    have e7 : a.eval (.tmp 7) = .pointer (some ⟨q0, 0, none⟩) := (h.other 7 (by decide)).trans h7
    have e8 : a.eval (.tmp 8) = .pointer (some ⟨q1, 0, none⟩) := (h.other 8 (by decide)).trans h8
    have bp : w.heap[p]? = some (.cells (leafV x0 vl) 45 (0, 0)) := (BW.block p (Array.getElem?_eq_some_iff.1 hp).1).trans hp
    have b0 : w.heap[q0]? = some (.cells (cv A0 AM) 26 (0, 0)) := (BW.block q0 (Array.getElem?_eq_some_iff.1 hq0).1).trans hq0
    have b1 : w.heap[q1]? = some (.cells (cv A1 AM) 26 (0, 0)) := (BW.block q1 (Array.getElem?_eq_some_iff.1 hq1).1).trans hq1
    have c28 : w.cell? ⟨p, 28, none⟩ = some vl := (cell_of_row _ _ _ _ _ _ bp).trans hc
    have ca : ∀ vs W, (callFunc 35 vs).run Try.prog W = .ok (.enter 35 vs) W := fun vs W => by have hf := Try.func35; simp [go_sem]
    have hBw : B ≤ w.heap.size := Nat.le_trans hB BW.size
    rcases (show i = 0 ∨ i = 1 ∨ i = 2 ∨ i = 3 ∨ i = 4 ∨ i = 5 ∨ i = 6 ∨ i = 7 ∨ i = 8 by omega) with rfl | rfl | rfl | rfl | rfl | rfl | rfl | rfl | rfl
    · obtain rfl := Option.some.inj ho
      exact iv_val rfl rfl _ (run_fieldOp rfl _ _ _ ((congrArg (fun y => (Instr.fieldAt 45 y 3).run Try.prog w) e2).trans (show _ = Result.ok (.pointer (some ⟨p, 28, none⟩)) w by simp [go_sem]))) rfl
    · obtain rfl := Option.some.inj ho
      have f0 : a.eval (.tmp 31) = .pointer (some ⟨p, 28, none⟩) := h.has ⟨0, .data⟩ (by simp) rfl _ 31 rfl rfl
      exact iv_val rfl rfl _ (run_loadOp rfl _ _ _ _ f0 (load_rules _ _ _ c28)) rfl
    · obtain rfl := Option.some.inj ho
      exact iv_val rfl rfl _ (run_loadC _ _ _ _ rfl q0 e7 A0 AM b0 hA0.1 hAM.1) rfl
    · obtain rfl := Option.some.inj ho
      have f1 : a.eval (.tmp 32) = vl := h.has ⟨1, .data⟩ (by simp) rfl _ 32 rfl rfl
      have f2 : a.eval (.tmp 33) = .agg (cv A0 AM) := h.has ⟨2, .data⟩ (by simp) rfl _ 33 rfl rfl
      exact iv_call rfl rfl 35 #[vl, .agg (cv A0 AM)] (run_callOps rfl ca _ _ _ (by simp [f1, f2])) ((leaf_any x0.rules hx0.2.2 hn1 vl A0 AM hA0 hAM w (GSl.below hl BW)).mono fun e w' h => by
        obtain ⟨⟨v, rfl, h1⟩, h2⟩ := h
        rw [← hx] at h1 ⊢
        exact ⟨_, rfl, h2, v, rfl, h1.base hBw⟩)
    · obtain rfl := Option.some.inj ho
      exact iv_val rfl rfl _ (run_fieldOp rfl _ _ _ ((congrArg (fun y => (Instr.fieldAt 45 y 3).run Try.prog w) e2).trans (show _ = Result.ok (.pointer (some ⟨p, 28, none⟩)) w by simp [go_sem]))) rfl
    · obtain rfl := Option.some.inj ho
      have f0 : a.eval (.tmp 35) = .pointer (some ⟨p, 28, none⟩) := h.has ⟨4, .data⟩ (by simp) rfl _ 35 rfl rfl
      exact iv_val rfl rfl _ (run_loadOp rfl _ _ _ _ f0 (load_rules _ _ _ c28)) rfl
    · obtain rfl := Option.some.inj ho
      exact iv_val rfl rfl _ (run_loadC _ _ _ _ rfl q1 e8 A1 AM b1 hA1.1 hAM.1) rfl
    · obtain rfl := Option.some.inj ho
      have f1 : a.eval (.tmp 36) = vl := h.has ⟨5, .data⟩ (by simp) rfl _ 36 rfl rfl
      have f2 : a.eval (.tmp 37) = .agg (cv A1 AM) := h.has ⟨6, .data⟩ (by simp) rfl _ 37 rfl rfl
      exact iv_call rfl rfl 35 #[vl, .agg (cv A1 AM)] (run_callOps rfl ca _ _ _ (by simp [f1, f2])) ((leaf_any x0.rules hx0.2.2 hn1 vl A1 AM hA1 hAM w (GSl.below hl BW)).mono fun e w' h => by
        obtain ⟨⟨v, rfl, h1⟩, h2⟩ := h
        rw [← hy] at h1 ⊢
        exact ⟨_, rfl, h2, v, rfl, h1.base hBw⟩)
    · obtain rfl := Option.some.inj ho
      obtain ⟨u, f1, hu⟩ : ∃ u, a.eval (.tmp 34) = .agg (leafV x u) ∧ LfR B w x u := h.has ⟨3, .data⟩ (by simp) rfl _ 34 rfl rfl
      obtain ⟨v, f2, hv⟩ : ∃ u, a.eval (.tmp 38) = .agg (leafV y u) ∧ LfR B w y u := h.has ⟨7, .data⟩ (by simp) rfl _ 38 rfl rfl
      refine iv_list rfl ?_
      refine wl_build2E (E := LeafE) LeafOk rfl _ _ rfl (leafV x u) (leafV y v) (leafV_size hu.1 u) (leafV_size hv.1 v) f1 f2 ?_
      exact ⟨_, rfl, (Below.refl _ _).alloc (Nat.le_refl _) _, fun _ _ => two_own hBw hu hv⟩
  · intro a w hb hsz hdf hot hh
    have f8 : LeavesOwn B w (a.eval (.tmp 39)) [x, y] := hh 8 _ 39 (by decide) rfl rfl
    obtain ⟨v, hv⟩ : ∃ v, a.eval (.tmp 39) = v := ⟨_, rfl⟩
    rw [hv] at f8
    refine wpOp_assign rfl rfl _ rfl v hv (some 4) rfl ?_
    show Q .normal (a.put (some 4) v) w
    rw [puts_form hsz hdf hot hDs]
    exact hK _ w v hb f8
theorem cand_free {V M : List Int} {l : List RuleM} {b i x : Nat} (h : candO V M l b i = some x) : bt M i = false := by
  unfold candO at h
  cases e : bt M i with
  | true => rw [e, if_pos rfl] at h; cases h
  | false => rfl
theorem best_free {V M : List Int} {l : List RuleM} {b i x : Nat} : ∀ {k : Nat}, bestO V M l b k = some (i, x) → i < k ∧ candO V M l b i = some x
  | 0, h => by cases h
  | k + 1, h => by
    unfold bestO at h
    cases hc : candO V M l b k with
    | none =>
      rw [hc] at h
      have := best_free (k := k) h
      exact ⟨by omega, this.2⟩
    | some z =>
      rw [hc] at h
      cases hs : bestO V M l b k with
      | none =>
        rw [hs] at h
        cases h
        exact ⟨by omega, hc⟩
      | some p =>
        rw [hs] at h
        obtain ⟨j, y⟩ := p
        unfold stepO at h
        dsimp only at h
        split at h
        · cases h
          exact ⟨by omega, hc⟩
        · cases h
          have := best_free hs
          exact ⟨by omega, this.2⟩
/-- What a leaf gives way to. -/
def halfL (x : LeafM) (i : Nat) (c : Bool) : LeafM := ⟨(fixV x.cube.1 x.cube.2 i c, fixM x.cube.2 i), 0, 0, clipT (fixV x.cube.1 x.cube.2 i c) (fixM x.cube.2 i) x.rules⟩
def partsT (b : Nat) (x : LeafM) : List LeafM := match bestO x.cube.1 x.cube.2 x.rules b 104 with
  | none => [x]
  | some (i, _) => [halfL x i false, halfL x i true]
set_option maxHeartbeats 8000000 in
theorem parts_any (x : LeafM) (hn1 : x.rules.length ≤ 100000) (b : Nat) (hwb : Wd b) (B : Nat) (u : Value) (w : World) (hB : B ≤ w.heap.size) (hx : LfR B w x u) :
    Calls Try.prog 37 #[.agg (leafV x u), .float .f64 b] w fun e w' => (∃ v, e = .returned v ∧ LeavesOwn B w' v (partsT b x)) ∧ Below w.heap.size w w' := by
  have hok := hx.1
  have hsz := leafV_size hok u
  have hat := leaf_at hok u
  obtain ⟨o2, cap2, rfl⟩ := hx.slice
  have hVl := hok.1.1
  have hMl := hok.2.1.1
  obtain ⟨w0, hw0⟩ : ∃ w0, w0 = w.alloc (.cells (leafV x (.slice o2 x.rules.length cap2)) 45) := ⟨_, rfl⟩
  have K0 : Hid (w0.heap[w.heap.size]? = some (.cells (leafV x (.slice o2 x.rules.length cap2)) 45 (0, 0))) := by show _ = _; rw [hw0]; exact heap_new _ _ _ rfl
  have B0 : Hid (Below w.heap.size w w0) := by show Below _ _ _; rw [hw0]; exact (Below.refl _ _).alloc (Nat.le_refl _) _
  have c28 : w0.cell? ⟨w.heap.size, 28, none⟩ = some (.slice o2 x.rules.length cap2) := (cell_of_row _ _ _ _ _ _ K0.out).trans hat.2.2.2
  have CA : Hid (∀ j, j < 26 → (leafV x (.slice o2 x.rules.length cap2))[0 + j]? = (cv x.cube.1 x.cube.2)[j]?) := fun j hj => by rw [Nat.zero_add]; exact hat.1 j hj
  have R0 : Hid (RulesAt w0 (.slice o2 x.rules.length cap2) x.rules) := GSl.below hx.rules B0.out
  have L0 : Hid (LfR B w0 x (.slice o2 x.rules.length cap2)) := LfR.below _ _ _ _ B0.out hx
  have be := bst_any x.rules hok.2.2 hn1 (.slice o2 x.rules.length cap2) x.cube.1 x.cube.2 hok.1 hok.2.1 b hwb w0 R0.out
  have HPT : Hid (partsT b x = match bestO x.cube.1 x.cube.2 x.rules b 104 with | none => [x] | some (i, _) => [halfL x i false, halfL x i true]) := rfl
  subst hw0
  go_enter Try.func37, Try.ntmps37
  cases hbo : bestO x.cube.1 x.cube.2 x.rules b 104 with
  | none =>
    rw [hbo] at be HPT
    go_wp2_with (first | ((with_reducible refine wl_gC12 _ rfl ?_); refine wl_loadCw rfl _ rfl w.heap.size 0 rfl _ _ _ x.cube.1 x.cube.2 hVl hMl K0.out CA.out ?_) | (go_at_call 15; refine be.mono ?_; rintro e w1 ⟨rfl, hb1⟩; refine of_stopT ?_))
    unfold StopT
    have B1 : Hid (Below w.heap.size w w1) := below_stepR B0.out B0.out.size hb1
    have K1 : Hid (w1.heap[w.heap.size]? = some (.cells (leafV x (.slice o2 x.rules.length cap2)) 45 (0, 0))) := (hb1.block _ (Array.getElem?_eq_some_iff.1 K0.out).1).trans K0.out
    have L1 : Hid (LfR B w1 x (.slice o2 x.rules.length cap2)) := LfR.below _ _ _ _ hb1 L0.out
    clear hb1 be c28 K0 R0 L0
    go_wp2_with (first | (refine wl_loadE (E := LeafE) LeafOk rfl _ rfl w.heap.size 0 rfl _ _ _ (leafV x (.slice o2 x.rules.length cap2)) hsz K1.out (own_cells _ _) ?_) | (refine wl_buildE (E := LeafE) LeafOk rfl _ rfl (leafV x (.slice o2 x.rules.length cap2)) hsz rfl ?_))
    go_ret
    refine ⟨⟨_, rfl, ?_⟩, B1.out.alloc B1.out.size _⟩
    rw [HPT.out]
    exact one_own (Nat.le_trans hB B1.out.size) L1.out
  | some p =>
    obtain ⟨i, z⟩ := p
    obtain ⟨hi, hcd⟩ := best_free hbo
    have hbt := cand_free hcd
    rw [hbo] at be HPT
    have HA0 : Hid (Byt (fixV x.cube.1 x.cube.2 i false)) := setb_byt _ i false
    have HA1 : Hid (Byt (fixV x.cube.1 x.cube.2 i true)) := setb_byt _ i true
    have HAM : Hid (Byt (fixM x.cube.2 i)) := setb_byt _ i true
    have HLE : Hid ([(⟨(fixV x.cube.1 x.cube.2 i false, fixM x.cube.2 i), 0, 0, clipT (fixV x.cube.1 x.cube.2 i false) (fixM x.cube.2 i) x.rules⟩ : LeafM), ⟨(fixV x.cube.1 x.cube.2 i true, fixM x.cube.2 i), 0, 0, clipT (fixV x.cube.1 x.cube.2 i true) (fixM x.cube.2 i) x.rules⟩] = partsT b x) := HPT.out.symm
    go_wp2_with (first | ((with_reducible refine wl_gC12 _ rfl ?_); refine wl_loadCw rfl _ rfl w.heap.size 0 rfl _ _ _ x.cube.1 x.cube.2 hVl hMl K0.out CA.out ?_) | (go_at_call 15; refine be.mono ?_; rintro e w1 ⟨rfl, hb1⟩; refine of_stopT ?_))
    unfold StopT
    have B1 : Hid (Below w.heap.size w w1) := below_stepR B0.out B0.out.size hb1
    have K1 : Hid (w1.heap[w.heap.size]? = some (.cells (leafV x (.slice o2 x.rules.length cap2)) 45 (0, 0))) := (hb1.block _ (Array.getElem?_eq_some_iff.1 K0.out).1).trans K0.out
    have R1 : Hid (RulesAt w1 (.slice o2 x.rules.length cap2) x.rules) := GSl.below R0.out hb1
    have sp := split_free x.cube.1 x.cube.2 hok.1 hok.2.1 i hi hbt w1
    clear hb1 be c28 K0 R0 L0 hbo hcd hbt
    generalize fixV x.cube.1 x.cube.2 i false = A0 at sp HA0 HLE
    generalize fixV x.cube.1 x.cube.2 i true = A1 at sp HA1 HLE
    generalize fixM x.cube.2 i = AM at sp HAM HLE
    have l0 : A0.length = 13 := HA0.out.1
    have l1 : A1.length = 13 := HA1.out.1
    have lm : AM.length = 13 := HAM.out.1
    go_wp2_with (first | ((with_reducible refine wl_gC12 _ rfl ?_); refine wl_loadCw rfl _ rfl w.heap.size 0 rfl _ _ _ x.cube.1 x.cube.2 hVl hMl K1.out CA.out ?_) | (go_at_call 21; refine sp.mono ?_; rintro e w2 ⟨rfl, hb2⟩; refine of_stopT ?_))
    unfold StopT
    have B2 : Hid (Below w.heap.size w w2) := below_stepR B1.out B1.out.size hb2
    have K2 : Hid (w2.heap[w.heap.size]? = some (.cells (leafV x (.slice o2 x.rules.length cap2)) 45 (0, 0))) := (hb2.block _ (Array.getElem?_eq_some_iff.1 K1.out).1).trans K1.out
    have R2 : Hid (RulesAt w2 (.slice o2 x.rules.length cap2) x.rules) := GSl.below R1.out hb2
    clear hb2 sp K1 R1
    obtain ⟨w3, hw3⟩ : ∃ w3, w3 = (w2.alloc (.cells (cv A0 AM) 26)).alloc (.cells (cv A1 AM) 26) := ⟨_, rfl⟩
    have Y0 : Hid (w3.heap[w2.heap.size]? = some (.cells (cv A0 AM) 26 (0, 0))) := by show _ = _; rw [hw3]; exact heap_past _ _ _ _ (heap_new _ _ _ rfl)
    have Y1 : Hid (w3.heap[w2.heap.size + 1]? = some (.cells (cv A1 AM) 26 (0, 0))) := by show _ = _; rw [hw3]; exact heap_new _ _ _ (by simp)
    have K3 : Hid (w3.heap[w.heap.size]? = some (.cells (leafV x (.slice o2 x.rules.length cap2)) 45 (0, 0))) := by show _ = _; rw [hw3]; exact heap_past _ _ _ _ (heap_past _ _ _ _ K2.out)
    have B23 : Hid (Below w2.heap.size w2 w3) := by show Below _ _ _; rw [hw3]; exact ((Below.refl _ _).alloc (Nat.le_refl _) _).alloc (by simp) _
    have B3 : Hid (Below w.heap.size w w3) := below_stepR B2.out B2.out.size B23.out
    have R3 : Hid (RulesAt w3 (.slice o2 x.rules.length cap2) x.rules) := GSl.below R2.out B23.out
    go_wp2_with (first | ((with_reducible refine wl_gSC12 _ _ rfl ?_); (first | refine wl_storeC rfl _ _ rfl w2.heap.size A0 AM rfl rfl _ (heap_past _ _ _ _ (heap_new _ _ _ rfl)) rfl l0 lm _ (setRow_two12 _ _ _ _ _ _ rfl) ?_ | (refine wl_storeC rfl _ _ rfl (w2.heap.size + 1) A1 AM rfl rfl _ (heap_new _ _ _ (by simp)) rfl l1 lm _ (setRow_new _ _ _ _ _ (by simp)) ?_; refine of_stopT ?_))))
    unfold StopT
    rw [← hw3]
    clear hw3 B23 R2 K2
    generalize w2.heap.size = q2 at Y0 Y1
    go_wp2_with fail
    refine pt_region (by exact Nat.le_of_eq rfl) B w.heap.size q2 (q2 + 1) A0 A1 AM HA0.out HA1.out HAM.out x hok hn1 _ R3.out (Nat.le_trans hB B3.out.size) rfl rfl rfl K3.out Y0.out Y1.out ?_
    intro y w4 v hb4 ho4
    have B4 : Hid (Below w.heap.size w w4) := below_stepR B3.out B3.out.size hb4
    rw [HLE.out] at ho4
    have O4 : Hid (LeavesOwn B w4 v (partsT b x)) := ho4
    clear hb4 ho4
    simp only [putsD, pt_D, List.foldl_cons, List.foldl_nil, Act.put, List.setIfInBounds_toArray, List.set_cons_succ, List.set_cons_zero]
    go_wp2_with fail
    go_ret
    exact ⟨⟨_, rfl, O4.out⟩, B4.out⟩
end Go.Proofs.Ytbhnjhiecoapbaa
namespace Go.Proofs.Ytbhnjhiecoapbaa
open Go Go.Lib Go.RowKit Ieee
set_option maxRecDepth 20000

/-! Leaves appended to a row of leaves of one's own. -/
theorem addr_form12 (g off j : Nat) : (⟨g, off, none⟩ : Addr).add j = ⟨g, off + j, none⟩ := by unfold Addr.add; split <;> simp_all
theorem gcells_size12 {α : Type} (enc : α → Array Value) (n : Nat) : ∀ (C : List α), (∀ c ∈ C, (enc c).size = n) → (gcells enc C).length = C.length * n
  | [], _ => by simp [gcells]
  | c :: C, h => by
    rw [gcells_cons, List.length_append, Array.length_toList, h c (by simp), gcells_size12 enc n C fun d hd => h d (by simp [hd]), List.length_cons, Nat.add_mul, Nat.one_mul, Nat.add_comm]
/-- A leaf's rules stay while a row of leaves grows. -/
theorem LfR.grown {B B' : Nat} {w w' : World} {v : Value} {n : Nat} {xs : List Value} (hv : w.ownsRow B' 45 29 v n xs) (hgr : w.grownBy w' v.ownBlock) {x : LeafM} {u : Value} (h : LfR B w x u) : LfR B w' x u :=
  ⟨h.1, own_grown hgr h.2 (own_apart hv h.2 (by decide))⟩
theorem wl_appL {ops : Array Oper} {rest : List Oper} {o : Oper} {a : Act} {w : World} {Q : Exit → Act → World → Prop} (hgd : o.guard = none) (s x : Operand) (ho : o.op = .call { callee := .builtin .append, args := #[s, x], argTypes := #[41, 41] })
    (B : Nat) (v u : Value) (C D : List LeafM) (hs : a.eval s = v) (hC : LeavesOwn B w v C) (hx : a.eval x = u) (hD : LeavesAt B w u D) (hD0 : 0 < D.length) (hn : C.length + D.length ≤ 1000000) (hB : B ≤ w.heap.size)
    (h : ∀ v' w', LeavesOwn B w' v' (C ++ D) → w.grownBy w' v.ownBlock → (v'.ownBlock = v.ownBlock ∨ v'.ownBlock = some w.heap.size) → wpList Try.prog ops Q rest (a.put o.dst v') w') : wpList Try.prog ops Q (o :: rest) a w := by
  obtain ⟨i0, hi, hz0, hz1, hz2⟩ := LeafOk.info
  obtain ⟨P, hP1, hP2, hP3⟩ := hC
  obtain ⟨P', hP1', hP2', hP3'⟩ := hD
  have hpl : P.length = C.length := by rw [← hP1, List.length_map]
  have hpl' : P'.length = D.length := by rw [← hP1', List.length_map]
  obtain ⟨oa, cap, rfl, hc1, hc2, hc3⟩ := hP2'
  obtain ⟨g, off, cur, t, fr, rfl, hg, _⟩ := hc3 0 (by omega)
  have hrow : ∀ p ∈ P', (leafV p.1 p.2).size = 29 := fun p hp => leafV_size (hP3' p hp).1 p.2
  have hlen := gcells_size12 (fun p : LeafM × Value => leafV p.1 p.2) 29 P' hrow
  refine wpList_append_own_at _ hgd s x 41 ho B 45 i0 (.agg LeafE.zero) 29 72 Try.underlying41 hi hz0 hz1 hz2 LeafOk.hz (by decide) v _ _ hs hP2 ⟨g, off, none⟩ P'.length cap (gcells (fun p : LeafM × Value => leafV p.1 p.2) P') hx hlen ?_ ?_ (by unfold maxLen; omega) (by omega) hB ?_
  · intro j y hj
    have hjl := (List.getElem?_eq_some_iff.1 hj).1
    rw [hlen] at hjl
    have hk : j / 29 < P'.length := Nat.div_lt_of_lt_mul (by rw [Nat.mul_comm]; exact hjl)
    obtain ⟨g2, off2, cur2, t2, fr2, e, h5, h6⟩ := hc3 (j / 29) hk
    obtain ⟨rfl, rfl⟩ : g = g2 ∧ off = off2 := by
      have := Option.some.inj e
      simpa using this
    have hr : j % 29 < 29 := Nat.mod_lt _ (by decide)
    have ej : j = 29 * (j / 29) + j % 29 := (Nat.div_add_mod j 29).symm
    have h7 := gcells_at (fun p : LeafM × Value => leafV p.1 p.2) 29 P' hrow (j / 29) hk (j % 29) hr
    rw [← ej, hj] at h7
    have h8 := h6 (j % 29) hr
    rw [← h7] at h8
    rw [addr_form12, cell_of_row _ _ _ _ _ _ h5, ← h8]
    congr 1
    show off + j = off + j / 29 * 29 + j % 29
    omega
  · intro y hy
    unfold gcells at hy
    obtain ⟨p, hp, hy⟩ := List.mem_flatMap.1 hy
    obtain ⟨o', m', hu⟩ := (hP3' p hp).slice
    exact (Array.all_eq_true_iff_forall_mem.1 (leaf_fits (hP3' p hp).1 ⟨_, _, _, hu⟩).2) y (by simpa using hy)
  · intro v' w' h1 h2 h3 h4
    refine h v' w' ⟨P ++ P', by rw [List.map_append, hP1, hP1'], ?_, fun p hp => ?_⟩ h2 h4
    · rw [gcells_append, List.length_append]
      exact h1
    · rcases List.mem_append.1 hp with hp | hp
      · exact LfR.grown hP2 h2 (hP3 p hp)
      · exact LfR.grown hP2 h2 (hP3' p hp)
/-- Another row of leaves stays meanwhile. -/
theorem leaves_grown {B B' : Nat} {w w' : World} {v u : Value} {n : Nat} {xs : List Value} {C : List LeafM} (hv : w.ownsRow B' 45 29 v n xs) (hgr : w.grownBy w' v.ownBlock) (hne : ∀ g, v.ownBlock = some g → u.ownBlock ≠ some g) (h : LeavesOwn B w u C) : LeavesOwn B w' u C :=
  NOwn.grown hgr h hne fun _ _ hr => LfR.grown hv hgr hr
end Go.Proofs.Ytbhnjhiecoapbaa
namespace Go.Proofs.Ytbhnjhiecoapbaa
open Go Go.Lib Go.RowKit Ieee
set_option maxRecDepth 20000

/-! The tree: one go through the leaves, and all of them. -/
def passT (b : Nat) (L : Int) (s : Nat) : List LeafM → List LeafM → Bool × List LeafM
  | nx, [] => (false, nx)
  | nx, x :: r => if L ≤ (nx.length : Int) + ((r.length : Int) + 1) then (true, nx ++ x :: r) else passT b L s (nx ++ if x.rules.length = s then partsT b x else [x]) r
def treeF (b : Nat) (L G : Int) : Nat → Nat → List LeafM → List LeafM
  | 0, _, out => out
  | f + 1, s, out => if max G 0 < (s : Int) then (match passT b L s [] out with | (true, r) => r | (false, r) => treeF b L G f (mostT s r) r) else out
def treeT (b : Nat) (L G : Int) (l : List RuleM) : List LeafM := treeF b L G ((clipT Z Z l).length + 1) (clipT Z Z l).length [⟨(Z, Z), 0, 0, clipT Z Z l⟩]
theorem parts_small {b : Nat} {x y : LeafM} (h : y ∈ partsT b x) : y.rules.length ≤ x.rules.length := by
  unfold partsT at h
  split at h
  · simp at h; rw [h]; exact Nat.le_refl _
  · simp at h
    rcases h with rfl | rfl
    · exact clip_len _ _ _
    · exact clip_len _ _ _
theorem parts_len (b : Nat) (x : LeafM) : 1 ≤ (partsT b x).length ∧ (partsT b x).length ≤ 2 := by
  unfold partsT
  split <;> simp
theorem pass_stop {b s : Nat} {L : Int} {nx out : List LeafM} {i : Nat} {x : LeafM} (hx : out[i]? = some x) (hL : L ≤ (nx.length : Int) + (out.length : Int) - (i : Int)) : passT b L s nx (out.drop i) = (true, nx ++ out.drop i) := by
  obtain ⟨hi, rfl⟩ := List.getElem?_eq_some_iff.1 hx
  rw [List.drop_eq_getElem_cons hi, passT, if_pos (by rw [List.length_drop]; omega)]
theorem pass_step {b s : Nat} {L : Int} {nx out : List LeafM} {i : Nat} {x : LeafM} (hx : out[i]? = some x) (hL : ¬ L ≤ (nx.length : Int) + (out.length : Int) - (i : Int)) : passT b L s nx (out.drop i) = passT b L s (nx ++ if x.rules.length = s then partsT b x else [x]) (out.drop (i + 1)) := by
  obtain ⟨hi, rfl⟩ := List.getElem?_eq_some_iff.1 hx
  rw [List.drop_eq_getElem_cons hi, passT, if_neg (by rw [List.length_drop]; omega)]
theorem pass_end {b s : Nat} {L : Int} {nx out : List LeafM} {i : Nat} (hi : out.length ≤ i) : passT b L s nx (out.drop i) = (false, nx) := by
  rw [List.drop_of_length_le hi, passT]
theorem tree_stop {b f s : Nat} {L G : Int} {out r : List LeafM} (hG : max G 0 < (s : Int)) (h : passT b L s [] out = (true, r)) : treeF b L G (f + 1) s out = r := by
  rw [treeF, if_pos hG, h]
theorem tree_step {b f s : Nat} {L G : Int} {out r : List LeafM} (hG : max G 0 < (s : Int)) (h : passT b L s [] out = (false, r)) : treeF b L G (f + 1) s out = treeF b L G f (mostT s r) r := by
  rw [treeF, if_pos hG, h]
theorem tree_done {b f s : Nat} {L G : Int} {out : List LeafM} (hG : ¬ max G 0 < (s : Int)) : treeF b L G f s out = out := by
  cases f with
  | zero => rfl
  | succ f => rw [treeF, if_neg hG]
theorem leaves_sl {B : Nat} {w : World} {v : Value} {C : List LeafM} (h : LeavesOwn B w v C) : LeavesAt B w v C := by
  obtain ⟨P, h1, h2, h3⟩ := h
  exact ⟨P, h1, gsl_of h2 fun c hc => leafV_size (h3 c hc).1 c.2, h3⟩
theorem leaves_drop {B : Nat} {w : World} {g off n cap i : Nat} {C : List LeafM} (h : LeavesAt B w (.slice (some ⟨g, off, none⟩) n cap) C) (hi : i < n) : LeavesAt B w (.slice (some ⟨g, off + i * 29, none⟩) (n - i) (cap - i)) (C.drop i) := by
  obtain ⟨P, h1, h2, h3⟩ := h
  obtain ⟨o, cap', e, h4, h5, h6⟩ := h2
  simp only [Value.slice.injEq] at e
  obtain ⟨rfl, e2, rfl⟩ := e
  refine ⟨P.drop i, by rw [← h1, List.map_drop], ⟨_, _, by rw [List.length_drop, ← e2], by rw [List.length_drop]; omega, by omega, fun k hk => ?_⟩, fun p hp => h3 p (List.mem_of_mem_drop hp)⟩
  rw [List.length_drop] at hk
  obtain ⟨g', off', cur, t, fr, e3, h7, h8⟩ := h6 (i + k) (by omega)
  obtain ⟨rfl, rfl⟩ : g = g' ∧ off = off' := by simpa using Option.some.inj e3
  refine ⟨g, off + i * 29, cur, t, fr, rfl, h7, fun j hj => ?_⟩
  have h9 := h8 j hj
  rw [List.getElem_drop, ← h9]
  congr 1
  show off + i * 29 + k * 29 + j = off + (i + k) * 29 + j
  omega
theorem leaves_own_slice {B : Nat} {w : World} {v : Value} {C : List LeafM} (h : LeavesOwn B w v C) : ∃ o cap, v = .slice o C.length cap ∧ C.length ≤ cap ∧ cap ≤ maxLen := NSl.slice (leaves_sl h)
end Go.Proofs.Ytbhnjhiecoapbaa
