import Derived.Test.YtbhnjhiecoapbaaJ15
import Derived.Test.YtbhnjhiecoapbaaJ1
import Derived.Test.YtbhnjhiecoapbaaJ7
import Derived.Test.YtbhnjhiecoapbaaJ5
namespace Go.Proofs.Ytbhnjhiecoapbaa
open Go Go.Lib Go.RowKit Ieee
set_option maxRecDepth 20000

/-! The best bit: its mathematics, and a row of two cubes. -/
def cntH (V M : List Int) (l : List RuleM) (i : Nat) (b : Bool) : Nat := needF (mR (fixV V M i b) (fixM M i)) (fR (fixV V M i b) (fixM M i)) l
/-- A bit's cost, if it may be cut by. -/
def candO (V M : List Int) (l : List RuleM) (b : Nat) (i : Nat) : Option Nat :=
  if bt M i then none else
  if cntH V M l i false = l.length ∨ cntH V M l i true = l.length then none else
  some (costC (max (cntH V M l i false) (cntH V M l i true)) (cntH V M l i false + cntH V M l i true) b)
def stepO (s : Option (Nat × Nat)) (i : Nat) : Option Nat → Option (Nat × Nat)
  | none => s
  | some x => match s with
    | none => some (i, x)
    | some (j, y) => if placeT x < placeT y then some (i, x) else some (j, y)
def bestO (V M : List Int) (l : List RuleM) (b : Nat) : Nat → Option (Nat × Nat)
  | 0 => none
  | k + 1 => stepO (bestO V M l b k) k (candO V M l b k)
def bI (s : Option (Nat × Nat)) : Nat := match s with | none => 0 | some (i, _) => i
def bX (s : Option (Nat × Nat)) : Nat := match s with | none => 0 | some (_, x) => x
theorem cand_wd {V M : List Int} {l : List RuleM} {b i x : Nat} (h : candO V M l b i = some x) : Wd x := by
  unfold candO at h
  split at h
  · cases h
  · split at h
    · cases h
    · cases h; exact costC_wd _ _ _
theorem best_wd (V M : List Int) (l : List RuleM) (b : Nat) : ∀ k, Wd (bX (bestO V M l b k))
  | 0 => by show Wd 0; unfold Wd; decide
  | k + 1 => by
    have ih := best_wd V M l b k
    unfold bestO
    cases hc : candO V M l b k with
    | none => exact ih
    | some x =>
      have hx := cand_wd hc
      cases hs : bestO V M l b k with
      | none => exact hx
      | some p =>
        rw [hs] at ih
        obtain ⟨j, y⟩ := p
        unfold stepO
        dsimp only
        split
        · exact hx
        · exact ih
theorem best_lt (V M : List Int) (l : List RuleM) (b : Nat) : ∀ k, bI (bestO V M l b k) ≤ k
  | 0 => Nat.le_refl _
  | k + 1 => by
    have ih := best_lt V M l b k
    unfold bestO
    cases hc : candO V M l b k with
    | none => exact Nat.le_succ_of_le ih
    | some x =>
      cases hs : bestO V M l b k with
      | none => exact Nat.le_succ _
      | some p =>
        rw [hs] at ih
        obtain ⟨j, y⟩ := p
        unfold stepO
        dsimp only
        split
        · exact Nat.le_succ _
        · exact Nat.le_succ_of_le ih
def pairC (V0 M0 V1 M1 : List Int) : Array Value := cv V0 M0 ++ cv V1 M1
set_option maxRecDepth 100000 in
theorem build_pair (V0 M0 V1 M1 : List Int) (h0 : V0.length = 13) (h1 : M0.length = 13) (h2 : V1.length = 13) (h3 : M1.length = 13) (W : World) : (Instr.build 55 #[(0, .agg (cv V0 M0)), (1, .agg (cv V1 M1))]).run Try.prog W = .ok (.agg (pairC V0 M0 V1 M1)) W := by
  obtain ⟨a0, a1, a2, a3, a4, a5, a6, a7, a8, a9, a10, a11, a12, rfl⟩ := list13 h0
  obtain ⟨b0, b1, b2, b3, b4, b5, b6, b7, b8, b9, b10, b11, b12, rfl⟩ := list13 h1
  obtain ⟨c0, c1, c2, c3, c4, c5, c6, c7, c8, c9, c10, c11, c12, rfl⟩ := list13 h2
  obtain ⟨d0, d1, d2, d3, d4, d5, d6, d7, d8, d9, d10, d11, d12, rfl⟩ := list13 h3
  kernel_rfl
set_option maxRecDepth 100000 in
theorem index_pair0 (V0 M0 V1 M1 : List Int) (h0 : V0.length = 13) (h1 : M0.length = 13) (h2 : V1.length = 13) (h3 : M1.length = 13) (W : World) : (Instr.index 55 (.agg (pairC V0 M0 V1 M1)) (.int .i64 0)).run Try.prog W = .ok (.agg (cv V0 M0)) W := by
  obtain ⟨a0, a1, a2, a3, a4, a5, a6, a7, a8, a9, a10, a11, a12, rfl⟩ := list13 h0
  obtain ⟨b0, b1, b2, b3, b4, b5, b6, b7, b8, b9, b10, b11, b12, rfl⟩ := list13 h1
  obtain ⟨c0, c1, c2, c3, c4, c5, c6, c7, c8, c9, c10, c11, c12, rfl⟩ := list13 h2
  obtain ⟨d0, d1, d2, d3, d4, d5, d6, d7, d8, d9, d10, d11, d12, rfl⟩ := list13 h3
  kernel_rfl
set_option maxRecDepth 100000 in
theorem index_pair1 (V0 M0 V1 M1 : List Int) (h0 : V0.length = 13) (h1 : M0.length = 13) (h2 : V1.length = 13) (h3 : M1.length = 13) (W : World) : (Instr.index 55 (.agg (pairC V0 M0 V1 M1)) (.int .i64 1)).run Try.prog W = .ok (.agg (cv V1 M1)) W := by
  obtain ⟨a0, a1, a2, a3, a4, a5, a6, a7, a8, a9, a10, a11, a12, rfl⟩ := list13 h0
  obtain ⟨b0, b1, b2, b3, b4, b5, b6, b7, b8, b9, b10, b11, b12, rfl⟩ := list13 h1
  obtain ⟨c0, c1, c2, c3, c4, c5, c6, c7, c8, c9, c10, c11, c12, rfl⟩ := list13 h2
  obtain ⟨d0, d1, d2, d3, d4, d5, d6, d7, d8, d9, d10, d11, d12, rfl⟩ := list13 h3
  kernel_rfl
theorem wl_pair {ops : Array Oper} {rest : List Oper} {o : Oper} {a : Act} {w : World} {Q : Exit → Act → World → Prop} (hgd : o.guard = none) (x y : Operand) (ho : o.op = .build 55 #[(0, x), (1, y)]) (V0 M0 V1 M1 : List Int) (h0 : V0.length = 13) (h1 : M0.length = 13) (h2 : V1.length = 13) (h3 : M1.length = 13)
    (hx : a.eval x = .agg (cv V0 M0)) (hy : a.eval y = .agg (cv V1 M1)) (h : wpList Try.prog ops Q rest (a.put o.dst (.agg (pairC V0 M0 V1 M1))) w) : wpList Try.prog ops Q (o :: rest) a w := by
  refine wpList_plain hgd fun _ hK => ?_
  unfold Oper.wp execOp
  simp only [ho, Sem.run_bind, List.map_toArray, List.map_cons, List.map_nil, hx, hy, build_pair V0 M0 V1 M1 h0 h1 h2 h3, Result.andThen_ok, Sem.run_pure]
  exact hK _ _ h
end Go.Proofs.Ytbhnjhiecoapbaa
namespace Go.Proofs.Ytbhnjhiecoapbaa
open Go Go.RowKit
set_option maxRecDepth 20000

theorem wl_minI {ops : Array Oper} {rest : List Oper} {o : Oper} {a : Act} {w : World} {Q : Exit → Act → World → Prop} (hgd : o.guard = none) (x y : Operand) (ho : o.op = .call { callee := .builtin .min, args := #[x, y], argTypes := #[3, 3] })
    (p q r : Int) (hx : a.eval x = .int .i64 p) (hy : a.eval y = .int .i64 q) (hr : r = min p q) (h : wpList Try.prog ops Q rest (a.put o.dst (.int .i64 r)) w) : wpList Try.prog ops Q (o :: rest) a w := by
  obtain ⟨dst, op, ty, pos, after, guard⟩ := o
  subst ho
  have hr : (execOp a.eval ⟨dst, .call { callee := .builtin .min, args := #[x, y], argTypes := #[3, 3] }, ty, pos, after, guard⟩).run Try.prog w = .ok (.value (.int .i64 r)) w := by
    subst hr
    by_cases h1 : p ≤ q
    · rw [show min p q = p by omega]
      unfold execOp
      simp [resolve, invoke, builtin, hx, hy, Builtin.min_, Builtin.min2]
      all_goals omega
    · rw [show min p q = q by omega]
      unfold execOp
      simp [resolve, invoke, builtin, hx, hy, Builtin.min_, Builtin.min2]
      all_goals omega
  refine wpList_plain hgd fun K hK => ?_
  unfold Oper.wp
  rw [hr]
  exact hK _ _ h
theorem wl_maxI {ops : Array Oper} {rest : List Oper} {o : Oper} {a : Act} {w : World} {Q : Exit → Act → World → Prop} (hgd : o.guard = none) (x y : Operand) (ho : o.op = .call { callee := .builtin .max, args := #[x, y], argTypes := #[3, 3] })
    (p q r : Int) (hx : a.eval x = .int .i64 p) (hy : a.eval y = .int .i64 q) (hr : r = max p q) (h : wpList Try.prog ops Q rest (a.put o.dst (.int .i64 r)) w) : wpList Try.prog ops Q (o :: rest) a w := by
  obtain ⟨dst, op, ty, pos, after, guard⟩ := o
  subst ho
  have hr : (execOp a.eval ⟨dst, .call { callee := .builtin .max, args := #[x, y], argTypes := #[3, 3] }, ty, pos, after, guard⟩).run Try.prog w = .ok (.value (.int .i64 r)) w := by
    subst hr
    by_cases h1 : q ≤ p
    · rw [show max p q = p by omega]
      unfold execOp
      simp [resolve, invoke, builtin, hx, hy, Builtin.max_, Builtin.max2]
      all_goals omega
    · rw [show max p q = q by omega]
      unfold execOp
      simp [resolve, invoke, builtin, hx, hy, Builtin.max_, Builtin.max2]
      all_goals omega
  refine wpList_plain hgd fun K hK => ?_
  unfold Oper.wp
  rw [hr]
  exact hK _ _ h
end Go.Proofs.Ytbhnjhiecoapbaa
namespace Go.Proofs.Ytbhnjhiecoapbaa
open Go Go.Lib Go.RowKit Ieee
set_option maxRecDepth 20000

theorem setRow_two12 (w : World) (old cs : Array Value) (t : TypeId) (o2 : Obj) (g : Nat) (hg : g = w.heap.size) : ((w.alloc (.cells old t)).alloc o2).setRow g cs = (w.alloc (.cells cs t)).alloc o2 := by
  subst hg
  rw [setRow_past _ _ _ _ (by simp), setRow_new _ _ _ _ _ rfl]
theorem bestO_no {V M : List Int} {l : List RuleM} {b k : Nat} (h : candO V M l b k = none) : bestO V M l b (k + 1) = bestO V M l b k := by
  show stepO _ _ _ = _
  rw [h]; rfl
theorem bestO_first {V M : List Int} {l : List RuleM} {b k x : Nat} (h : candO V M l b k = some x) (hs : (bestO V M l b k).isSome = false) : bestO V M l b (k + 1) = some (k, x) := by
  show stepO _ _ _ = _
  rw [h]
  cases e : bestO V M l b k with
  | none => rfl
  | some p => rw [e] at hs; cases hs
theorem bestO_less {V M : List Int} {l : List RuleM} {b k x : Nat} (h : candO V M l b k = some x) (hx : placeT x < placeT (bX (bestO V M l b k))) : bestO V M l b (k + 1) = some (k, x) := by
  show stepO _ _ _ = _
  rw [h]
  cases e : bestO V M l b k with
  | none => rfl
  | some p => rw [e] at hx; obtain ⟨j, y⟩ := p; exact if_pos hx
theorem bestO_stay {V M : List Int} {l : List RuleM} {b k x : Nat} (h : candO V M l b k = some x) (hs : (bestO V M l b k).isSome = true) (hx : ¬ placeT x < placeT (bX (bestO V M l b k))) : bestO V M l b (k + 1) = bestO V M l b k := by
  show stepO _ _ _ = _
  rw [h]
  cases e : bestO V M l b k with
  | none => rw [e] at hs; cases hs
  | some p => rw [e] at hx; obtain ⟨j, y⟩ := p; exact if_neg hx
/-- What the loop over bits has come to. -/
def At12 (V M : List Int) (l : List RuleM) (b k bi bx : Nat) (f : Bool) : Prop := bi = bI (bestO V M l b k) ∧ bx = bX (bestO V M l b k) ∧ f = (bestO V M l b k).isSome
theorem at_new {V M : List Int} {l : List RuleM} {b k x : Nat} (h : bestO V M l b (k + 1) = some (k, x)) : At12 V M l b (k + 1) k x true := by
  unfold At12
  rw [h]
  exact ⟨rfl, rfl, rfl⟩
theorem at_stay {V M : List Int} {l : List RuleM} {b k bi bx : Nat} {fb : Bool} (h : bestO V M l b (k + 1) = bestO V M l b k) (ha : At12 V M l b k bi bx fb) : At12 V M l b (k + 1) bi bx fb := by
  unfold At12
  rw [h]
  exact ha
set_option maxHeartbeats 16000000 in
theorem bst_any (l : List RuleM) (hl0 : ∀ r ∈ l, okR8 r) (hn1 : l.length ≤ 100000) (vl : Value) (V M : List Int) (hV : Byt V) (hM : Byt M) (b : Nat) (hwb : Wd b) (w : World) (hl : RulesAt w vl l) :
    Calls Try.prog 15 #[vl, .agg (cv V M), .float .f64 b] w fun e w' => e = .returned (.tuple #[.int .i64 (bI (bestO V M l b 104) : Nat), .bool (bestO V M l b 104).isSome]) ∧ Below w.heap.size w w' := by
  have SF : Hid (∀ (k : Nat) W, k < 104 → bt M k = false → Calls Try.prog 21 #[.agg (cv V M), .int .i64 (k : Int)] W fun e w' => e = .returned (.tuple #[.agg (cv (fixV V M k false) (fixM M k)), .agg (cv (fixV V M k true) (fixM M k)), .int .i64 0]) ∧ Below W.heap.size W w') := fun k W h1 h2 => split_free V M hV hM k h1 h2 W
  have SX : Hid (∀ (k : Nat) W, k < 104 → bt M k = true → Calls Try.prog 21 #[.agg (cv V M), .int .i64 (k : Int)] W fun e w' => e = .returned (.tuple #[.agg (cv Z Z), .agg (cv Z Z), .int .i64 3]) ∧ Below W.heap.size W w') := fun k W h1 h2 => split_fixed V M hV.1 hM k h1 h2 W
  have CN : Hid (∀ (A B : List Int) W, Byt A → Byt B → RulesAt W vl l → Calls Try.prog 27 #[vl, .agg (cv A B)] W fun e w' => e = .returned (.int .i64 (needF (mR A B) (fR A B) l : Nat)) ∧ Below W.heap.size W w') := fun A B W h1 h2 h3 => cnt_any l hl0 hn1 vl A B h1 h2 W h3
  have CO : Hid (∀ (g s : Nat) W, g ≤ 1000000 → s ≤ 1000000 → Calls Try.prog 28 #[.int .i64 (g : Int), .int .i64 (s : Int), .float .f64 b] W fun e w' => e = .returned (.float .f64 (costC g s b)) ∧ w' = W) := fun g s W h1 h2 => costC_any g s b h1 h2 hwb W
  have LS : Hid (∀ (x y : Nat) W, Wd x → Wd y → Calls Try.prog 29 #[.float .f64 x, .float .f64 y] W fun e w' => e = .returned (.bool (decide (placeT x < placeT y))) ∧ w' = W) := fun x y W h1 h2 => less_any x y h1 h2 W
  have hVl := hV.1
  have hMl := hM.1
  have HFV : Hid (∀ k c, Byt (fixV V M k c)) := fun k c => setb_byt _ k c
  have HFM : Hid (∀ k, Byt (fixM M k)) := fun k => setb_byt _ k true
  obtain ⟨o, cap, rfl, hc1, hc2⟩ := GSl.slice hl
  obtain ⟨n, hn0⟩ : ∃ n, n = l.length := ⟨_, rfl⟩
  have HN : Hid (n = l.length) := hn0
  rw [← hn0] at hl hc1 hn1 CN ⊢
  have HL : Hid (RulesAt w (.slice o n cap) l) := hl
  unfold maxLen at hc2
  obtain ⟨R, hR⟩ : ∃ R, R = bestO V M l b 104 := ⟨_, rfl⟩
  have HRR : Hid (R = bestO V M l b 104) := hR
  rw [← hR]
  clear hl hn0 hl0 hV hM hR hwb
  go_enter Try.func15, Try.ntmps15
  go_wp2_with fail
  go_step3
  go_wp2_with fail
  go_step3
  go_wp2_with fail
  go_loopw [8, 9, 10, 21] (fun v f x i wr => ∃ (k bi bx : Nat) (fb : Bool), k ≤ 104 ∧ i = .int .i64 (k : Int) ∧ v = .int .i64 (bi : Int) ∧ f = .bool fb ∧ x = .float .f64 bx ∧ Hid (At12 V M l b k bi bx fb) ∧ Hid (wr.heap[w.heap.size]? = some (.cells (cv V M) 26 (0, 0))) ∧ Hid (Below w.heap.size w wr)) (fun _ _ _ i _ => 104 - (intOf i).toNat)
  case atStart => exact ⟨0, 0, 0, false, Nat.zero_le _, rfl, rfl, rfl, rfl, ⟨rfl, rfl, rfl⟩, heap_new _ _ _ rfl, (Below.refl _ _).alloc (Nat.le_refl _) _⟩
  case round =>
    obtain ⟨k, bi, bx, fb, hk, rfl, rfl, rfl, rfl, HA, HZ, HB⟩ := hrel
    by_cases hlt : k < 104
    · have hlt' : (k : Int) < 104 := by omega
      rcases Bool.eq_false_or_eq_true (bt M k) with hbt | hbt
      · have HNO : Hid (candO V M l b k = none) := by show _ = _; unfold candO; rw [if_pos hbt]
        have sx := SX.out k wr hlt hbt
        clear hbt
        go_wp2_with (first | ((with_reducible refine wl_gC12 _ rfl ?_); refine wl_loadCw rfl _ rfl w.heap.size 0 rfl _ _ _ V M hVl hMl HZ.out (own_cells _ _) ?_) | (go_at_call 21; refine sx.mono ?_; rintro e w1 ⟨rfl, hb1⟩; refine of_stopT ?_))
        unfold StopT
        have BW1 : Hid (Below w.heap.size w w1) := below_stepR HB.out HB.out.size hb1
        have C1 : Hid (w1.heap[w.heap.size]? = some (.cells (cv V M) 26 (0, 0))) := (hb1.block _ (Array.getElem?_eq_some_iff.1 HZ.out).1).trans HZ.out
        clear hb1 sx
        go_wp2_with (first | ((with_reducible refine wl_gSC12 _ _ rfl ?_); (first | refine wl_storeC rfl _ _ rfl w1.heap.size Z Z rfl rfl _ (heap_past _ _ _ _ (heap_new _ _ _ rfl)) rfl Z_byt.1 Z_byt.1 _ (setRow_two12 _ _ _ _ _ _ rfl) ?_ | refine wl_storeC rfl _ _ rfl (w1.heap.size + 1) Z Z rfl rfl _ (heap_new _ _ _ (by simp)) rfl Z_byt.1 Z_byt.1 _ (setRow_new _ _ _ _ _ (by simp)) ?_)))
        go_roundw
        case rel => exact ⟨k + 1, bi, bx, fb, by omega, by go_num, rfl, rfl, rfl, at_stay (bestO_no HNO.out) HA.out, heap_past _ _ _ _ (heap_past _ _ _ _ C1.out), (BW1.out.alloc BW1.out.size _).alloc (by simp; have := BW1.out.size; omega) _⟩
        case measure => simp [intOf]; omega
      · have sf := SF.out k wr hlt hbt
        have HBT : Hid (bt M k = false) := hbt
        clear hbt
        have HA0 : Hid (Byt (fixV V M k false)) := HFV.out k false
        have HA1 : Hid (Byt (fixV V M k true)) := HFV.out k true
        have HAM : Hid (Byt (fixM M k)) := HFM.out k
        have HC0 : Hid (needF (mR (fixV V M k false) (fixM M k)) (fR (fixV V M k false) (fixM M k)) l = cntH V M l k false) := rfl
        have HC1 : Hid (needF (mR (fixV V M k true) (fixM M k)) (fR (fixV V M k true) (fixM M k)) l = cntH V M l k true) := rfl
        have hn0 : cntH V M l k false ≤ n := by rw [HN.out]; exact need_le _ _ _
        have hn2 : cntH V M l k true ≤ n := by rw [HN.out]; exact need_le _ _ _
        have HNO : Hid (cntH V M l k false = n ∨ cntH V M l k true = n → candO V M l b k = none) := fun h => by rw [HN.out] at h; unfold candO; rw [HBT.out, if_neg (by simp), if_pos h]
        have HYE : Hid (cntH V M l k false ≠ n → cntH V M l k true ≠ n → candO V M l b k = some (costC (max (cntH V M l k false) (cntH V M l k true)) (cntH V M l k false + cntH V M l k true) b)) := fun h1 h2 => by rw [HN.out] at h1 h2; unfold candO; rw [HBT.out, if_neg (by simp), if_neg (fun h => h.elim h1 h2)]
        generalize cntH V M l k false = c0 at HC0 hn0 HNO HYE
        generalize cntH V M l k true = c1 at HC1 hn2 HNO HYE
        generalize fixV V M k false = A0 at sf HA0 HC0
        generalize fixV V M k true = A1 at sf HA1 HC1
        generalize fixM M k = AM at sf HAM HC0 HC1
        have l0 : A0.length = 13 := HA0.out.1
        have l1 : A1.length = 13 := HA1.out.1
        have lm : AM.length = 13 := HAM.out.1
        go_wp2_with (first | ((with_reducible refine wl_gC12 _ rfl ?_); refine wl_loadCw rfl _ rfl w.heap.size 0 rfl _ _ _ V M hVl hMl HZ.out (own_cells _ _) ?_) | (go_at_call 21; refine sf.mono ?_; rintro e w1 ⟨rfl, hb1⟩; refine of_stopT ?_))
        unfold StopT
        have BW1 : Hid (Below w.heap.size w w1) := below_stepR HB.out HB.out.size hb1
        have C1 : Hid (w1.heap[w.heap.size]? = some (.cells (cv V M) 26 (0, 0))) := (hb1.block _ (Array.getElem?_eq_some_iff.1 HZ.out).1).trans HZ.out
        clear hb1 sf
        obtain ⟨w3, hw3⟩ : ∃ w3, w3 = (w1.alloc (.cells (cv A0 AM) 26)).alloc (.cells (cv A1 AM) 26) := ⟨_, rfl⟩
        have Y0 : Hid (w3.heap[w1.heap.size]? = some (.cells (cv A0 AM) 26 (0, 0))) := by show _ = _; rw [hw3]; exact heap_past _ _ _ _ (heap_new _ _ _ rfl)
        have Y1 : Hid (w3.heap[w1.heap.size + 1]? = some (.cells (cv A1 AM) 26 (0, 0))) := by show _ = _; rw [hw3]; exact heap_new _ _ _ (by simp)
        have C3 : Hid (w3.heap[w.heap.size]? = some (.cells (cv V M) 26 (0, 0))) := by show _ = _; rw [hw3]; exact heap_past _ _ _ _ (heap_past _ _ _ _ C1.out)
        have B3 : Hid (Below w.heap.size w w3) := by show Below _ _ _; rw [hw3]; exact (BW1.out.alloc BW1.out.size _).alloc (by simp; have := BW1.out.size; omega) _
        go_wp2_with (first | ((with_reducible refine wl_gSC12 _ _ rfl ?_); (first | refine wl_storeC rfl _ _ rfl w1.heap.size A0 AM rfl rfl _ (heap_past _ _ _ _ (heap_new _ _ _ rfl)) rfl l0 lm _ (setRow_two12 _ _ _ _ _ _ rfl) ?_ | (refine wl_storeC rfl _ _ rfl (w1.heap.size + 1) A1 AM rfl rfl _ (heap_new _ _ _ (by simp)) rfl l1 lm _ (setRow_new _ _ _ _ _ (by simp)) ?_; refine of_stopT ?_))))
        unfold StopT
        rw [← hw3]
        clear hw3
        go_wp2_with (first | ((with_reducible refine wl_gC12 _ rfl ?_); (first | refine wl_loadCw rfl _ rfl w1.heap.size 0 rfl _ _ _ A0 AM l0 lm Y0.out (own_cells _ _) ?_ | refine wl_loadCw rfl _ rfl (w1.heap.size + 1) 0 rfl _ _ _ A1 AM l1 lm Y1.out (own_cells _ _) ?_)) | (refine wl_pair rfl _ _ rfl A0 AM A1 AM l0 lm l1 lm rfl rfl ?_))
        clear Y0 Y1
        have IX0 : ∀ W, (Instr.index 55 (.agg (pairC A0 AM A1 AM)) (.int .i64 0)).run Try.prog W = .ok (.agg (cv A0 AM)) W := fun W => index_pair0 A0 AM A1 AM l0 lm l1 lm W
        have IX1 : ∀ W, (Instr.index 55 (.agg (pairC A0 AM A1 AM)) (.int .i64 1)).run Try.prog W = .ok (.agg (cv A1 AM)) W := fun W => index_pair1 A0 AM A1 AM l0 lm l1 lm W
        generalize pairC A0 AM A1 AM = PP at IX0 IX1
        generalize w1.heap.size = q1
        go_loopw [15, 16, 36] (fun g s i wx => ∃ (j gg ss : Int), i = .int .i64 j ∧ g = .int .i64 gg ∧ s = .int .i64 ss ∧ Hid ((0 = j ∧ 0 = gg ∧ 0 = ss) ∨ (1 = j ∧ (c0 : Int) = gg ∧ (c0 : Int) = ss ∧ c0 ≠ n) ∨ (2 = j ∧ ((max c0 c1 : Nat) : Int) = gg ∧ ((c0 + c1 : Nat) : Int) = ss ∧ c0 ≠ n ∧ c1 ≠ n)) ∧ Hid (wx.heap[w.heap.size]? = some (.cells (cv V M) 26 (0, 0))) ∧ Hid (Below w.heap.size w wx)) (fun _ _ i _ => 2 - (intOf i).toNat)
        case atStart => exact ⟨0, 0, 0, rfl, rfl, rfl, Or.inl ⟨rfl, rfl, rfl⟩, C3, B3⟩
        case round =>
          clear C3 B3
          obtain ⟨j, gg, ss, rfl, rfl, rfl, HJ, C3, B3⟩ := hrel
          rcases HJ.out with ⟨rfl, rfl, rfl⟩ | ⟨rfl, rfl, rfl, h0⟩ | ⟨rfl, rfl, rfl, h0, h1⟩
          · clear HJ
            have hj2 : (0 : Int) < 2 := by decide
            obtain ⟨w4, hw4⟩ : ∃ w4, w4 = wr.alloc (.cells (cv A0 AM) 26) := ⟨_, rfl⟩
            have X4 : Hid (w4.heap[wr.heap.size]? = some (.cells (cv A0 AM) 26 (0, 0))) := by show _ = _; rw [hw4]; exact heap_new _ _ _ rfl
            have C4 : Hid (w4.heap[w.heap.size]? = some (.cells (cv V M) 26 (0, 0))) := by show _ = _; rw [hw4]; exact heap_past _ _ _ _ C3.out
            have B4 : Hid (Below w.heap.size w w4) := by show Below _ _ _; rw [hw4]; exact B3.out.alloc B3.out.size _
            have cn := CN.out A0 AM w4 HA0.out HAM.out (GSl.below HL.out B4.out)
            rw [HC0.out] at cn
            go_wp2_with (first | ((with_reducible refine wl_gSC12 _ _ rfl ?_); (refine wl_storeC rfl _ _ rfl wr.heap.size A0 AM rfl rfl _ (heap_new _ _ _ rfl) rfl l0 lm _ (setRow_new _ _ _ _ _ rfl) ?_; refine of_stopT ?_)))
            unfold StopT
            rw [← hw4]
            clear hw4
            generalize wr.heap.size = q at X4
            go_wp2_with (first | ((with_reducible refine wl_gC12 _ rfl ?_); (refine wl_loadCw rfl _ rfl q 0 rfl _ _ _ A0 AM l0 lm X4.out (own_cells _ _) ?_)) | (go_at_call 27; refine cn.mono ?_; rintro e w5 ⟨rfl, hb5⟩; refine of_stopT ?_))
            unfold StopT
            have C5 : Hid (w5.heap[w.heap.size]? = some (.cells (cv V M) 26 (0, 0))) := (hb5.block _ (Array.getElem?_eq_some_iff.1 C4.out).1).trans C4.out
            have B5 : Hid (Below w.heap.size w w5) := below_stepR B4.out B4.out.size hb5
            clear hb5 cn X4 C4 B4 C3 B3
            by_cases hq : c0 = n
            · have HE : Hid (bestO V M l b (k + 1) = bestO V M l b k) := bestO_no (HNO.out (Or.inl hq))
              have hq1 : ((c0 : Int) == (n : Int)) = true := by simp; omega
              have hq2 : decide ((c0 : Int) = (n : Int)) = true := by simp; omega
              clear hq
              go_wp2_with fail
              go_roundw
              case rel => exact ⟨k + 1, bi, bx, fb, by omega, by go_num, rfl, rfl, rfl, at_stay HE.out HA.out, C5, B5⟩
              case measure => simp [intOf]; omega
            · have HQ : Hid (c0 ≠ n) := hq
              have hq1 : ((c0 : Int) == (n : Int)) = false := by simp; omega
              have hq2 : decide ((c0 : Int) = (n : Int)) = false := by simp; omega
              clear hq
              go_wp2_with (refine wl_maxI rfl _ _ rfl (0 : Int) (c0 : Int) (c0 : Int) rfl rfl (by omega) ?_)
              go_roundw
              case rel => exact ⟨1, c0, c0, by go_num, rfl, by go_num, Or.inr (Or.inl ⟨rfl, rfl, rfl, HQ.out⟩), C5, B5⟩
              case measure => simp [intOf]
          · clear HJ
            have H0 : Hid (c0 ≠ n) := h0
            clear h0
            have hj2 : (1 : Int) < 2 := by decide
            obtain ⟨w4, hw4⟩ : ∃ w4, w4 = wr.alloc (.cells (cv A1 AM) 26) := ⟨_, rfl⟩
            have X4 : Hid (w4.heap[wr.heap.size]? = some (.cells (cv A1 AM) 26 (0, 0))) := by show _ = _; rw [hw4]; exact heap_new _ _ _ rfl
            have C4 : Hid (w4.heap[w.heap.size]? = some (.cells (cv V M) 26 (0, 0))) := by show _ = _; rw [hw4]; exact heap_past _ _ _ _ C3.out
            have B4 : Hid (Below w.heap.size w w4) := by show Below _ _ _; rw [hw4]; exact B3.out.alloc B3.out.size _
            have cn := CN.out A1 AM w4 HA1.out HAM.out (GSl.below HL.out B4.out)
            rw [HC1.out] at cn
            go_wp2_with (first | ((with_reducible refine wl_gSC12 _ _ rfl ?_); (refine wl_storeC rfl _ _ rfl wr.heap.size A1 AM rfl rfl _ (heap_new _ _ _ rfl) rfl l1 lm _ (setRow_new _ _ _ _ _ rfl) ?_; refine of_stopT ?_)))
            unfold StopT
            rw [← hw4]
            clear hw4
            generalize wr.heap.size = q at X4
            go_wp2_with (first | ((with_reducible refine wl_gC12 _ rfl ?_); (refine wl_loadCw rfl _ rfl q 0 rfl _ _ _ A1 AM l1 lm X4.out (own_cells _ _) ?_)) | (go_at_call 27; refine cn.mono ?_; rintro e w5 ⟨rfl, hb5⟩; refine of_stopT ?_))
            unfold StopT
            have C5 : Hid (w5.heap[w.heap.size]? = some (.cells (cv V M) 26 (0, 0))) := (hb5.block _ (Array.getElem?_eq_some_iff.1 C4.out).1).trans C4.out
            have B5 : Hid (Below w.heap.size w w5) := below_stepR B4.out B4.out.size hb5
            clear hb5 cn X4 C4 B4 C3 B3
            by_cases hq : c1 = n
            · have HE : Hid (bestO V M l b (k + 1) = bestO V M l b k) := bestO_no (HNO.out (Or.inr hq))
              have hq1 : ((c1 : Int) == (n : Int)) = true := by simp; omega
              have hq2 : decide ((c1 : Int) = (n : Int)) = true := by simp; omega
              clear hq
              go_wp2_with fail
              go_roundw
              case rel => exact ⟨k + 1, bi, bx, fb, by omega, by go_num, rfl, rfl, rfl, at_stay HE.out HA.out, C5, B5⟩
              case measure => simp [intOf]; omega
            · have HQ : Hid (c1 ≠ n) := hq
              have hq1 : ((c1 : Int) == (n : Int)) = false := by simp; omega
              have hq2 : decide ((c1 : Int) = (n : Int)) = false := by simp; omega
              clear hq
              go_wp2_with (refine wl_maxI rfl _ _ rfl (c0 : Int) (c1 : Int) ((max c0 c1 : Nat) : Int) rfl rfl (by omega) ?_)
              go_roundw
              case rel => exact ⟨2, ((max c0 c1 : Nat) : Int), ((c0 + c1 : Nat) : Int), by go_num, rfl, by go_num, Or.inr (Or.inr ⟨rfl, rfl, rfl, H0.out, HQ.out⟩), C5, B5⟩
              case measure => simp [intOf]
          · clear HJ
            have HY : Hid (candO V M l b k = some (costC (max c0 c1) (c0 + c1) b)) := HYE.out h0 h1
            clear h0 h1
            have hg1 : max c0 c1 ≤ 1000000 := by omega
            have hs1 : c0 + c1 ≤ 1000000 := by omega
            generalize max c0 c1 = g1 at HY hg1 ⊢
            generalize c0 + c1 = s1 at HY hs1 ⊢
            have co := CO.out g1 s1 wr hg1 hs1
            have HXW : Hid (Wd (costC g1 s1 b)) := costC_wd _ _ _
            have HBW : Hid (Wd bx) := by show Wd bx; rw [HA.out.2.1]; exact best_wd _ _ _ _ _
            generalize costC g1 s1 b = x at HY co HXW
            have ls := LS.out x bx wr HXW.out HBW.out
            cases fb with
            | false =>
              have HE : Hid (bestO V M l b (k + 1) = some (k, x)) := bestO_first HY.out HA.out.2.2.symm
              go_wp2_with (first | (go_at_call 28; refine co.mono ?_; rintro e w' ⟨rfl, rfl⟩))
              go_roundw
              case rel => exact ⟨k + 1, k, x, true, by omega, by go_num, rfl, rfl, rfl, at_new HE.out, C3, B3⟩
              case measure => simp [intOf]; omega
            | true =>
              by_cases hp : placeT x < placeT bx
              · have HE : Hid (bestO V M l b (k + 1) = some (k, x)) := bestO_less HY.out (by rw [← HA.out.2.1]; exact hp)
                rw [decide_eq_true hp] at ls
                clear hp
                go_wp2_with (first | (go_at_call 28; refine co.mono ?_; rintro e w' ⟨rfl, rfl⟩) | (go_at_call 29; refine ls.mono ?_; rintro e w' ⟨rfl, rfl⟩))
                go_roundw
                case rel => exact ⟨k + 1, k, x, true, by omega, by go_num, rfl, rfl, rfl, at_new HE.out, C3, B3⟩
                case measure => simp [intOf]; omega
              · have HE : Hid (bestO V M l b (k + 1) = bestO V M l b k) := bestO_stay HY.out HA.out.2.2.symm (by rw [← HA.out.2.1]; exact hp)
                rw [decide_eq_false hp] at ls
                clear hp
                go_wp2_with (first | (go_at_call 28; refine co.mono ?_; rintro e w' ⟨rfl, rfl⟩) | (go_at_call 29; refine ls.mono ?_; rintro e w' ⟨rfl, rfl⟩))
                go_roundw
                case rel => exact ⟨k + 1, bi, bx, true, by omega, by go_num, rfl, rfl, rfl, at_stay HE.out HA.out, C3, B3⟩
                case measure => simp [intOf]; omega
    · have hlt' : ¬ (k : Int) < 104 := by omega
      have e104 : k = 104 := by omega
      subst e104
      have EB : Hid (bI R = bi) := by show _ = _; rw [HRR.out, HA.out.1]
      have EF : Hid (R.isSome = fb) := by show _ = _; rw [HRR.out, HA.out.2.2]
      clear HRR HA
      go_wp2_with fail
      try simp only [Exit.noGoto_ret]
      go_ret2
      exact ⟨by rw [EB.out, EF.out]; rfl, HB.out⟩
end Go.Proofs.Ytbhnjhiecoapbaa
namespace Go.Proofs.Ytbhnjhiecoapbaa
open Go Go.RowKit
set_option maxRecDepth 20000

/-- One operation of a drawn region, by the laws for a list of them. -/
theorem wpOp_of_list {P : Program} {ops : Array Oper} {Q : Exit → Act → World → Prop} {i : Nat} {o : Oper} {K : Act → World → Prop} {a : Act} {w : World} (hi : ops[i]? = some o)
    (h : wpList P ops (fun e a' w' => match e with | .normal => K a' w' | e => Q e a' w') [o] a w) : wpOp P ops Q i K a w := by
  unfold Go.wpOp
  simp only [hi]
  unfold wpList at h
  by_cases hw : Region.wanted o (yielded ops a.tmps) = true
  · rw [if_pos hw] at h ⊢
    rcases h with h | h
    · refine .inl ?_
      unfold Oper.wp at h ⊢
      revert h
      generalize (execOp a.eval o).run P w = r
      intro h
      unfold Oper.upon at h ⊢
      split at h
      · exact h
      · exact h
      · exact h
      · refine h.mono ?_
        intro e w1 h1
        cases e <;> exact h1
      · exact h
      · exact h
      · exact h.elim
    · exact .inr h
  · rw [if_neg hw] at h ⊢
    exact h
theorem eval_put (a : Act) (k j : Nat) (v : Value) (hk : k < a.tmps.size) : (a.put (some k) v).eval (.tmp j) = if j = k then v else a.eval (.tmp j) := by
  simp only [Act.eval, Act.put, Array.getElem?_setIfInBounds, Array.getD_eq_getD_getElem?]
  by_cases h : j = k
  · subst h; simp [hk]
  · simp [h, Ne.symm h]
theorem size_put (a : Act) (d : Option Tmp) (v : Value) : (a.put d v).tmps.size = a.tmps.size := by
  cases d <;> simp [Act.put]
theorem w_set_heap (w : World) : w.drew.heap = w.heap := rfl
theorem gb_drew (w : World) (g : Nat) : w.grownBy w.drew (some g) := ⟨rfl, rfl, rfl, Nat.le_refl _, fun _ _ _ => rfl⟩
theorem load_cell {ty e : TypeId} (hu : Try.prog.underlying ty = some (.slice e)) (W : World) (ad : Addr) (v : Value) (h : W.cell? ad = some v) : (Instr.loadAt ty (.pointer (some ad))).run Try.prog W = .ok v W := by
  have ha : (isAgg ty).run Try.prog W = .ok false W := by unfold isAgg; rw [Sem.run_bind, run_underlying hu W]; simp [go_sem]
  simp [Instr.loadAt, Instr.sureAddr, loadVar, Sem.run_bind, ha, go_sem, h]
theorem store_cell {ty : TypeId} (hsz : ∀ W, (sizeOf ty).run Try.prog W = .ok 1 W) (W : World) (ad : Addr) (v u : Value) (hv : ∃ o n c, v = .slice o n c) (h : W.cell? ad = some u) (hz : W.frozen? ad = false) : (Instr.storeAt ty (.pointer (some ad)) v).run Try.prog W = .ok () (W.setCell ad v) := by
  obtain ⟨o, n, c, rfl⟩ := hv
  simp [Instr.storeAt, Instr.sureAddr, storeVar, Sem.run_bind, hsz, go_sem, h, hz]
/-- One operation whose value is known. -/
theorem wpOp_val {ops : Array Oper} {Q : Exit → Act → World → Prop} {i : Nat} {o : Oper} {K : Act → World → Prop} {a : Act} {w w' : World} (hi : ops[i]? = some o) (hw : Region.wanted o (yielded ops a.tmps) = true) (v : Value)
    (hx : (execOp a.eval o).run Try.prog w = .ok (.value v) w') (d : Option Tmp) (hd : o.dst = d) (hK : K (a.put d v) w') : wpOp Try.prog ops Q i K a w := by
  subst hd
  refine wpOp_wanted hi hw ?_
  unfold Oper.wp
  rw [hx]
  exact hK
theorem wpOp_skip6 {ops : Array Oper} {Q : Exit → Act → World → Prop} {i : Nat} {o : Oper} {K : Act → World → Prop} {a : Act} {w w' : World} (hi : ops[i]? = some o) (hw : Region.wanted o (yielded ops a.tmps) = true)
    (hx : (execOp a.eval o).run Try.prog w = .ok .skip w') (d : Option Tmp) (hd : o.dst = d) (hK : K (a.put d undef) w') : wpOp Try.prog ops Q i K a w := by
  subst hd
  refine wpOp_wanted hi hw ?_
  unfold Oper.wp
  rw [hx]
  exact hK
theorem wpOp_skip0 {ops : Array Oper} {Q : Exit → Act → World → Prop} {i : Nat} {o : Oper} {K : Act → World → Prop} {a : Act} {w w' : World} (hi : ops[i]? = some o) (hw : Region.wanted o (yielded ops a.tmps) = true)
    (hx : (execOp a.eval o).run Try.prog w = .ok .skip w') (hd : o.dst = none) (hK : K a w') : wpOp Try.prog ops Q i K a w :=
  wpOp_skip6 hi hw hx none hd hK
theorem wpOp_callQ {ops : Array Oper} {Q : Exit → Act → World → Prop} {i : Nat} {o : Oper} {K : Act → World → Prop} {a : Act} {w : World} (hi : ops[i]? = some o) (hw : Region.wanted o (yielded ops a.tmps) = true) (f : FuncId) (vs : Array Value)
    (hf : (execOp a.eval o).run Try.prog w = .ok (.enter f vs) w) (D : Ending → World → Prop) (h : Calls Try.prog f vs w D) (d : Option Tmp) (hd : o.dst = d) (hK : ∀ v w', D (.returned v) w' → K (a.put d v) w') (hP : ∀ ch w', D (.panicked ch) w' → Q (.panic ch) a w') (hO : ∀ w', ¬ D .outgrown w') : wpOp Try.prog ops Q i K a w := by
  subst hd
  refine wpOp_wanted hi hw ?_
  unfold Oper.wp
  rw [hf]
  refine h.mono ?_
  intro e w' hD
  cases e with
  | returned v => exact hK v w' hD
  | panicked ch => exact hP ch w' hD
  | outgrown => exact absurd hD (hO w')

theorem run_fieldOp {o : Oper} {t i : Nat} {x : Operand} (ho : o.op = .fieldAddr t x i) (a : Act) (W : World) (v : Value) (h : (Instr.fieldAt t (a.eval x) i).run Try.prog W = .ok v W) : (execOp a.eval o).run Try.prog W = .ok (.value v) W := by
  unfold execOp
  simp only [ho, Sem.run_bind, h, Result.andThen_ok, Sem.run_pure]
theorem run_moveOp {o : Oper} {x : Operand} (ho : o.op = .move x) (a : Act) (W : World) (v : Value) (h : a.eval x = v) : (execOp a.eval o).run Try.prog W = .ok (.value v) W := by
  unfold execOp
  simp only [ho, Sem.run_pure, h]
theorem run_loadOp {o : Oper} {t : Nat} {x : Operand} (ho : o.op = .load t x) (a : Act) (W : World) (u v : Value) (hu : a.eval x = u) (h : (Instr.loadAt t u).run Try.prog W = .ok v W) : (execOp a.eval o).run Try.prog W = .ok (.value v) W := by
  unfold execOp
  simp only [ho, Sem.run_bind, hu, h, Result.andThen_ok, Sem.run_pure]
theorem run_storeOp {o : Oper} {t : Nat} {x y : Operand} (ho : o.op = .store t x y) (a : Act) (W W' : World) (u v : Value) (hu : a.eval x = u) (hv : a.eval y = v) (h : (Instr.storeAt t u v).run Try.prog W = .ok () W') : (execOp a.eval o).run Try.prog W = .ok .skip W' := by
  unfold execOp
  simp only [ho, Sem.run_bind, hu, hv, h, Result.andThen_ok, Sem.run_pure]
theorem run_callOp {o : Oper} {f : Nat} {x : Operand} {ts : Array TypeId} (ho : o.op = .call { callee := .value (.func f), args := #[x], argTypes := ts }) (hf : ∀ vs W, (callFunc f vs).run Try.prog W = .ok (.enter f vs) W) (a : Act) (W : World) (v : Value) (h : a.eval x = v) : (execOp a.eval o).run Try.prog W = .ok (.enter f #[v]) W := by
  unfold execOp
  have hef : a.eval (.func f) = .func (.func f) #[] #[] := rfl
  simp only [ho, resolve, hef, List.map_toArray, List.map_cons, List.map_nil, h]
  simp [go_sem, hf]
end Go.Proofs.Ytbhnjhiecoapbaa
