import Derived.Test.YtbhnjhiecoapbaaJ17
import Derived.Test.YtbhnjhiecoapbaaJ21
namespace Go.Proofs.Ytbhnjhiecoapbaa
open Go Go.RowKit
set_option maxRecDepth 20000

/-- As InvR, with a word on the world that turns when operation m has come up. -/
structure InvM (ops : Array Oper) (V : Nat → Value → World → Prop) (D : List Nat) (I : Bool → World → Prop) (m : Nat) (a0 : Act) (listed : Array Bool) (a : Act) (w : World) : Prop where
  wld : I (listed.getD m false) w
  size : a.tmps.size = a0.tmps.size
  defers : a.defers = a0.defers
  other : ∀ d, d ∉ D → a.eval (.tmp d) = a0.eval (.tmp d)
  has : ∀ j o d, ops[j]? = some o → o.dst = some d → listed.getD j false = true → V j (a.eval (.tmp d)) w
/-- What an operation finds when it comes up. -/
structure AtM (ops : Array Oper) (V : Nat → Value → World → Prop) (D : List Nat) (I : Bool → World → Prop) (b : Bool) (a0 : Act) (o : Oper) (a : Act) (w : World) : Prop where
  wld : I b w
  size : a.tmps.size = a0.tmps.size
  defers : a.defers = a0.defers
  other : ∀ d, d ∉ D → a.eval (.tmp d) = a0.eval (.tmp d)
  has : ∀ e ∈ o.after, Region.binds .any e = true → ∀ oj d, ops[e.on]? = some oj → oj.dst = some d → V e.on (a.eval (.tmp d)) w
/-- A drawn region whose last operation waits for all others, one of which (m) may change what lies in memory, while all others make memory at most. -/
theorem region_mid {P : Program} {id : Nat} {Q : Exit → Act → World → Prop} {a0 : Act} {w0 : World} {lo : List Oper} (n m : Nat) (V : Nat → Value → World → Prop) (I : Bool → World → Prop) (D : List Nat) (hm : P.follows .mixedOrders = true) (hmn : m < n)
    (hn : lo.length = n + 1) (hD : (lo.filterMap (·.dst)) = D) (hnd : D.Nodup) (hsz : ∀ d ∈ D, d < a0.tmps.size) (hdag : (lo.zipIdx.all fun x => x.1.after.all fun e => decide (e.on < x.2)) = true)
    (hlast : (lo[n]?).map (fun o => (List.range n).all fun j => o.after.any fun e => e.on == j && Region.binds .any e) = some true)
    (hV : ∀ j v w w', V j v w → Below w.heap.size w w' → V j v w') (hI : ∀ b w w', I b w → Below w.heap.size w w' → I b w') (hI0 : I false w0.drew)
    (hop : ∀ i o, lo[i]? = some o → i < n → i ≠ m → ∀ b a w, AtM lo.toArray V D I b a0 o a w → wpOp P lo.toArray Q i (fun a' w' => ∃ v, a' = a.put o.dst v ∧ Below w.heap.size w w' ∧ ∀ d, o.dst = some d → V i v w') a w)
    (hmid : ∀ o, lo[m]? = some o → ∀ a w, AtM lo.toArray V D I false a0 o a w → wpOp P lo.toArray Q m (fun a' w' => ∃ v, a' = a.put o.dst v ∧ I true w' ∧ (∀ j u, j ≠ m → V j u w → V j u w') ∧ ∀ d, o.dst = some d → V m v w') a w)
    (hend : ∀ a w, I true w → a.tmps.size = a0.tmps.size → a.defers = a0.defers → (∀ d, d ∉ D → a.eval (.tmp d) = a0.eval (.tmp d)) → (∀ j o d, j < n → lo[j]? = some o → o.dst = some d → V j (a.eval (.tmp d)) w) → wpOp P lo.toArray Q n (fun a' w' => Q .normal a' w') a w) : (Code.region id lo.toArray true).wp P Q a0 w0 := by
  refine wp_region_any hm ?_
  have hdag' : ∀ (i : Nat) (o : Oper), lo.toArray[i]? = some o → ∀ e ∈ o.after, e.on < i := fun i o ho e he => by
    rw [List.all_eq_true] at hdag
    have ho' : lo[i]? = some o := by simpa using ho
    obtain ⟨hi, rfl⟩ := List.getElem?_eq_some_iff.1 ho'
    have := hdag (lo[i], i) (List.mem_zipIdx_iff_getElem?.2 (List.getElem?_eq_getElem hi))
    simp only [Array.all_eq_true_iff_forall_mem] at this
    simpa using this e he
  have hnd' := hnd
  have hDa : (lo.toArray.toList.filterMap (·.dst)) = D := by simpa using hD
  have inD : ∀ (i : Nat) (o : Oper) (d : Nat), lo.toArray[i]? = some o → o.dst = some d → d ∈ D := fun i o d ho hd => by
    rw [← hD, List.mem_filterMap]
    exact ⟨o, List.mem_of_getElem? (by simpa using ho), hd⟩
  have key : ∀ (f : Nat) (listed : Array Bool) (a : Act) (w : World), listed.toList.count false = f → listed.size = n + 1 → listed.getD n true = false → InvM lo.toArray V D I m a0 listed a w → wpAny P .any lo.toArray Q f listed a w := by
    intro f
    induction f with
    | zero =>
      intro listed a w hc hs hln inv
      exfalso
      have : false ∈ listed.toList := by
        rw [Array.getD_eq_getD_getElem?, Array.getElem?_eq_getElem (by omega)] at hln
        have h3 : listed[n]'(by omega) = false := by simpa using hln
        rw [← h3]; exact Array.mem_toList_iff.2 (Array.getElem_mem (by omega))
      have := List.count_pos_iff.2 this
      omega
    | succ f ih =>
      intro listed a w hc hs hln inv
      refine ⟨fun hr => absurd hr (ready_some (by simpa [hn] using hs) hdag' n hln), fun i hi => ?_⟩
      obtain ⟨hiu, o, ho, hdeps⟩ := mem_ready.1 hi
      have hil : i < listed.size := by
        rw [Array.getD_eq_getD_getElem?] at hiu
        rcases Nat.lt_or_ge i listed.size with h1 | h1
        · exact h1
        · rw [Array.getElem?_eq_none h1] at hiu; simp at hiu
      have hcnt := falses_set listed i hiu
      by_cases hin : i = n
      · subst hin
        have hol : lo[i]? = some o := by simpa using ho
        have hall : ∀ j, j < i → listed.getD j false = true := fun j hj => by
          rw [hol] at hlast
          simp only [Option.map_some, Option.some.injEq, List.all_eq_true, List.mem_range] at hlast
          have := hlast j hj
          rw [Array.any_eq_true'] at this
          obtain ⟨e, he, hb⟩ := this
          simp only [Bool.and_eq_true, beq_iff_eq] at hb
          rw [← hb.1]
          exact hdeps e he hb.2
        refine wpOp_mono (fun a' w' hQ => ?_) (hend a w (by have := inv.wld; rwa [hall m hmn] at this) inv.size inv.defers inv.other (fun j oj d hj hoj hd => inv.has j oj d (by simpa using hoj) hd (hall j hj)))
        have h0 : (listed.setIfInBounds i true).toList.count false = 0 := by
          rw [List.count_eq_zero]
          intro hmem
          obtain ⟨j, hj, hje⟩ := List.mem_iff_getElem.1 hmem
          rw [Array.getElem_toList] at hje
          have hj' : j < listed.size := by simpa using hj
          by_cases hji : i = j
          · subst hji
            rw [Array.getElem_setIfInBounds_self] at hje
            simp at hje
          · rw [Array.getElem_setIfInBounds_ne hj' hji] at hje
            have := hall j (by omega)
            rw [Array.getD_eq_getD_getElem?, Array.getElem?_eq_getElem hj'] at this
            simp [hje] at this
        obtain rfl : f = 0 := by omega
        exact ⟨ready_none h0, hQ⟩
      · have hlt : i < n := by omega
        have hol : lo[i]? = some o := by simpa using ho
        by_cases him : i = m
        · subst him
          have hno : listed.getD i false = false := getD_tf hiu
          refine wpOp_mono (fun a' w' hK => ?_) (hmid o hol a w ⟨by have := inv.wld; rwa [hno] at this, inv.size, inv.defers, inv.other, fun e he hb oj d hoj hd => inv.has e.on oj d hoj hd (hdeps e he hb)⟩)
          obtain ⟨v, rfl, hIw, hst, hv⟩ := hK
          have hset : (listed.setIfInBounds i true).getD i false = true := by
            rw [Array.getD_eq_getD_getElem?, Array.getElem?_setIfInBounds_self_of_lt hil]; rfl
          refine ih _ _ _ (by omega) (by simpa using hs) (by rw [getD_set_ne' hin]; exact hln) ⟨by rw [hset]; exact hIw, by rw [size_put]; exact inv.size, ?_, fun d hd => ?_, fun j oj d hoj hd hlj => ?_⟩
          · have : (a.put o.dst v).defers = a.defers := by cases o.dst <;> rfl
            rw [this]; exact inv.defers
          · cases hdo : o.dst with
            | none => exact inv.other d hd
            | some k =>
              rw [eval_put _ _ _ _ (by rw [inv.size]; exact hsz k (inD i o k ho hdo)), if_neg (fun h : d = k => hd (by rw [h]; exact inD i o k ho hdo))]
              exact inv.other d hd
          · by_cases hji : j = i
            · subst hji
              obtain rfl : oj = o := Option.some.inj (hoj.symm.trans ho)
              rw [hd, eval_put _ _ _ _ (by rw [inv.size]; exact hsz d (inD j oj d ho hd)), if_pos rfl]
              exact hv d hd
            · rw [getD_set_ne' (Ne.symm hji)] at hlj
              have h1 := hst _ _ hji (inv.has j oj d hoj hd hlj)
              cases hdo : o.dst with
              | none => exact h1
              | some k =>
                have hkd : ¬ d = k := fun h => hji (dst_apart hDa hnd' hoj ho hd (by rw [h]; exact hdo))
                rw [eval_put _ _ _ _ (by rw [inv.size]; exact hsz k (inD i o k ho hdo)), if_neg hkd]
                exact h1
        · refine wpOp_mono (fun a' w' hK => ?_) (hop i o hol hlt him (listed.getD m false) a w ⟨inv.wld, inv.size, inv.defers, inv.other, fun e he hb oj d hoj hd => inv.has e.on oj d hoj hd (hdeps e he hb)⟩)
          obtain ⟨v, rfl, hbw, hv⟩ := hK
          refine ih _ _ _ (by omega) (by simpa using hs) (by rw [getD_set_ne' hin]; exact hln) ⟨by rw [getD_set_ne' him]; exact hI _ _ _ inv.wld hbw, by rw [size_put]; exact inv.size, ?_, fun d hd => ?_, fun j oj d hoj hd hlj => ?_⟩
          · have : (a.put o.dst v).defers = a.defers := by cases o.dst <;> rfl
            rw [this]; exact inv.defers
          · cases hdo : o.dst with
            | none => exact inv.other d hd
            | some k =>
              rw [eval_put _ _ _ _ (by rw [inv.size]; exact hsz k (inD i o k ho hdo)), if_neg (fun h : d = k => hd (by rw [h]; exact inD i o k ho hdo))]
              exact inv.other d hd
          · by_cases hji : j = i
            · subst hji
              obtain rfl : oj = o := Option.some.inj (hoj.symm.trans ho)
              rw [hd, eval_put _ _ _ _ (by rw [inv.size]; exact hsz d (inD j oj d ho hd)), if_pos rfl]
              exact hv d hd
            · rw [getD_set_ne' (Ne.symm hji)] at hlj
              have h1 := (fun h => hV _ _ _ _ h hbw) (inv.has j oj d hoj hd hlj)
              cases hdo : o.dst with
              | none => exact h1
              | some k =>
                have hkd : ¬ d = k := fun h => hji (dst_apart hDa hnd' hoj ho hd (by rw [h]; exact hdo))
                rw [eval_put _ _ _ _ (by rw [inv.size]; exact hsz k (inD i o k ho hdo)), if_neg hkd]
                exact h1
  have hrep : (Array.replicate lo.toArray.size false).toList.count false = lo.toArray.size := by simp
  refine key _ _ _ _ hrep (by simp [hn]) ?_ ⟨?_, rfl, rfl, fun _ _ => rfl, fun j o d _ _ hl => ?_⟩
  · rw [Array.getD_eq_getD_getElem?, Array.getElem?_eq_getElem (by simp [hn])]
    simp
  · rw [Array.getD_eq_getD_getElem?, Array.getElem?_eq_getElem (by simp [hn]; omega)]
    simpa using hI0
  · exfalso
    rw [Array.getD_eq_getD_getElem?] at hl
    rcases Nat.lt_or_ge j (Array.replicate lo.toArray.size false).size with h1 | h1
    · rw [Array.getElem?_eq_getElem h1] at hl; simp at hl
    · rw [Array.getElem?_eq_none h1] at hl; simp at hl
end Go.Proofs.Ytbhnjhiecoapbaa
namespace Go.Proofs.Ytbhnjhiecoapbaa
open Go Go.Lib Go.RowKit Ieee
set_option maxRecDepth 20000

theorem wpOp_allocE {E : El} (H : E.Ok) {ops : Array Oper} {Q : Exit → Act → World → Prop} {i : Nat} {o : Oper} {K : Act → World → Prop} {a : Act} {w : World} (hi : ops[i]? = some o) (hw : Region.wanted o (yielded ops a.tmps) = true) (ho : o.op = .alloc E.elem) (d : Option Tmp) (hd : o.dst = d)
    (hK : K (a.put d (.pointer (some ⟨w.heap.size, 0, none⟩))) (w.alloc (.cells E.zero E.elem))) : wpOp Try.prog ops Q i K a w := by
  obtain ⟨ie, h1, h2, _, _⟩ := H.info
  have hx : (execOp a.eval o).run Try.prog w = .ok (.value (.pointer (some ⟨w.heap.size, 0, none⟩))) (w.alloc (.cells E.zero E.elem)) := by
    unfold execOp
    simp only [ho]
    simp [go_sem, Instr.alloc, zeroValue, typeInfo, h1, h2, Value.cells]
  exact wpOp_val hi hw _ hx d hd hK
theorem later_cell12 {W : World} {g k : Nat} {cs : Array Value} {t : TypeId} {fr : Nat × Nat} {v : Value} (hg : W.heap[g]? = some (.cells cs t fr)) (hk : cs[k]? = some v) : ∀ u : Later W, u.world.cell? ⟨g, k, none⟩ = some v := fun u => by
  rw [cell_of_row _ _ _ _ _ _ (later_block hg _ ⟨u, rfl⟩), hk]

theorem wl_maxIg {ops : Array Oper} {rest : List Oper} {o : Oper} {a : Act} {w : World} {Q : Exit → Act → World → Prop} (hw : Region.wanted o (yielded ops a.tmps) = true) (x y : Operand) (ho : o.op = .call { callee := .builtin .max, args := #[x, y], argTypes := #[3, 3] })
    (p q r : Int) (hx : a.eval x = .int .i64 p) (hy : a.eval y = .int .i64 q) (hr : r = max p q) (h : wpList Try.prog ops Q rest (a.put o.dst (.int .i64 r)) w) : wpList Try.prog ops Q (o :: rest) a w := by
  obtain ⟨dst, op, ty, pos, after, guard⟩ := o
  subst ho
  have hr : (execOp a.eval ⟨dst, .call { callee := .builtin .max, args := #[x, y], argTypes := #[3, 3] }, ty, pos, after, guard⟩).run Try.prog w = .ok (.value (.int .i64 r)) w := by
    subst hr
    by_cases h1 : q ≤ p
    · rw [show max p q = p by omega]
      unfold execOp
      simp [resolve, invoke, builtin, hx, hy, Builtin.max_, Builtin.max2]
      all_goals omega
    · rw [show max p q = q by omega]
      unfold execOp
      simp [resolve, invoke, builtin, hx, hy, Builtin.max_, Builtin.max2]
      all_goals omega
  refine wpList_step fun K hK => ?_
  rw [if_pos hw]
  unfold Oper.wp
  rw [hr]
  exact hK _ _ h
end Go.Proofs.Ytbhnjhiecoapbaa
namespace Go.Proofs.Ytbhnjhiecoapbaa
open Go Go.Lib Go.RowKit Ieee
set_option maxRecDepth 20000

set_option maxHeartbeats 8000000 in
set_option maxRecDepth 100000 in
theorem lawUMeans_any (l0 : List RuleM) (hok0 : ∀ r ∈ l0, okR8 r) (vl : Value) (L0 G : Int) (b : Nat) (hwb : Wd b) (H : List Int) (hH : Byt H) (w : World) (hl0 : RulesAt w vl l0) :
    Calls Try.prog 7 #[vl, .int .i64 L0, .int .i64 G, .float .f64 b, .agg (hv H)] w fun e w' => e = .returned (.bool true) ∧ Below w.heap.size w w' := by
  obtain ⟨o, n0, n, cap, l, rfl, K⟩ := cut24 hok0 hl0
  have hHl := hH.1
  have hc1 := K.cap1
  have hc2 := K.cap2
  unfold maxLen at hc2
  have hn0' := K.le
  have HNM : Hid ((n : Int) = min (n0 : Int) 24) := K.min
  have hsl := K.slice
  have hlen : l.length ≤ 100000 := by rw [K.len]; have := K.min; omega
  obtain ⟨L, hLe⟩ : ∃ L, L = min L0 12 := ⟨_, rfl⟩
  have HLM : Hid (L = min L0 12) := hLe
  have hL1 : L ≤ 1000 := by omega
  have AW : Hid (∀ W, Calls Try.prog 9 #[] W fun e w' => e = .returned (.bool true) ∧ Below W.heap.size W w') := fun W => awake12_any W
  have TR : Hid (∀ W, Below w.heap.size w W → Calls Try.prog 18 #[.slice o n cap, .int .i64 L, .int .i64 G, .float .f64 b] W fun e w' => (∃ v, e = .returned v ∧ LeavesOwn W.heap.size w' v (treeT b L G l)) ∧ Below W.heap.size W w') := fun W hb => tree_any l K.ok hlen _ L G hL1 b hwb W (GSl.below K.at_ hb)
  obtain ⟨kf, xf, hxf, hhf, hlf, FI0⟩ := find_tree b L G hL1 l H hH
  have LK : Hid (∀ W, Below w.heap.size w W → Calls Try.prog 11 #[.slice o n cap, .agg (hv H)] W fun e w' => e = .returned (.tuple #[.agg (ruleV (lookT l H).1), .bool (lookT l H).2]) ∧ Below W.heap.size W w') := fun W hb => look_any l K.ok _ H hH W (GSl.below K.at_ hb)
  have hsay := says_look (hlf.2.2.2 H hhf)
  have hfew := (tree_few b L G l).2.1
  generalize treeT b L G l = T at TR hxf FI0 hfew
  have hT1 : T.length ≤ 100000 := by omega
  have FI : Hid (∀ (B : Nat) (v : Value) W, LeavesAt B W v T → Calls Try.prog 20 #[v, .agg (hv H)] W fun e w' => e = .returned (.tuple #[.int .i64 (kf : Int), .bool true]) ∧ Below W.heap.size W w') := FI0
  have XF : Hid (T[kf]? = some xf) := hxf
  have hr1 := look_ok12 K.ok H
  obtain ⟨⟨r, ok⟩, hS⟩ : ∃ S, S = lookT l H := ⟨_, rfl⟩
  rw [← hS] at LK hr1 hsay
  simp only at LK hr1 hsay
  have HR : Hid (okR8 r) := hr1
  obtain ⟨HS1, HS2, HS3⟩ := hsay
  have LX : Hid (∀ u W, okL xf → RulesAt W u xf.rules → ∃ r2, okR8 r2 ∧ r2.order = r.order ∧ r2.action = r.action ∧ ∀ W', Below W.heap.size W W' → Calls Try.prog 11 #[u, .agg (hv H)] W' fun e w' => e = .returned (.tuple #[.agg (ruleV r2), .bool ok]) ∧ Below W'.heap.size W' w') := fun u W h1 h2 =>
    ⟨(lookT xf.rules H).1, look_ok12 h1.2.2 H, HS2, HS3, fun W' hb => by have h := look_any xf.rules h1.2.2 u H hH W' (GSl.below h2 hb); rwa [HS1] at h⟩
  have K0 : Hid ((w.alloc (.cells (hv H) 24)).heap[w.heap.size]? = some (.cells (hv H) 24 (0, 0))) := heap_new _ _ _ rfl
  have B0 : Hid (Below w.heap.size w (w.alloc (.cells (hv H) 24))) := (Below.refl _ _).alloc (Nat.le_refl _) _
  clear K hl0 hok0 hlen FI0 hxf hhf hlf hLe hL1 hfew hr1 hS HS1 HS2 HS3
  go_enter Try.func7, Try.ntmps7
  go_wp2_with fail
  refine (AW.out _).mono ?_
  rintro e w1 ⟨rfl, hb1⟩
  have R1 : Hid (w1.heap[w.heap.size]? = some (.cells (hv H) 24 (0, 0))) := (hb1.block _ (by simp)).trans K0.out
  have B1 : Hid (Below w.heap.size w w1) := B0.out.trans (hb1.mono B0.out.size)
  clear hb1 K0 B0
  go_wp2_with (first | (refine wl_min7 rfl _ _ rfl (n0 : Int) 24 (n : Int) rfl rfl HNM.out ?_) | (refine wl_min7 rfl _ _ rfl L0 12 L rfl rfl HLM.out ?_))
  refine (TR.out _ B1.out).mono ?_
  rintro e w2 ⟨⟨vt, rfl, ho2⟩, hb2⟩
  have R2 : Hid (w2.heap[w.heap.size]? = some (.cells (hv H) 24 (0, 0))) := (hb2.block _ (Array.getElem?_eq_some_iff.1 R1.out).1).trans R1.out
  have B2 : Hid (Below w.heap.size w w2) := B1.out.trans (hb2.mono B1.out.size)
  obtain ⟨B, hB⟩ : ∃ B, B = w1.heap.size := ⟨_, rfl⟩
  rw [← hB] at ho2
  obtain ⟨ot, ct, rfl, ht1, ht2⟩ := leaves_own_slice ho2
  unfold maxLen at ht2
  obtain ⟨nt, hnt⟩ : ∃ nt, nt = T.length := ⟨_, rfl⟩
  have A2 : Hid (LeavesAt B w2 (.slice ot nt ct) T) := by show LeavesAt _ _ _ _; rw [hnt]; exact leaves_sl ho2
  have HNT : Hid (nt = T.length) := hnt
  rw [← hnt] at ht1 hT1 ⊢
  clear hb2 ho2 R1 B1 hB hnt
  go_wp2_with (refine wl_load26 rfl _ rfl w.heap.size rfl H R2.out hHl ?_)
  refine (FI.out B _ _ A2.out).mono ?_
  rintro e w4 ⟨rfl, hb4⟩
  have R4 : Hid (w4.heap[w.heap.size]? = some (.cells (hv H) 24 (0, 0))) := (hb4.block _ (Array.getElem?_eq_some_iff.1 R2.out).1).trans R2.out
  have B4 : Hid (Below w.heap.size w w4) := B2.out.trans (hb4.mono B2.out.size)
  have A4 : Hid (LeavesAt B w4 (.slice ot nt ct) T) := NSl.below LfR.below A2.out hb4
  clear hb4 R2 B2 A2
  go_wp2_with (refine wl_load26 rfl _ rfl w.heap.size rfl H R4.out hHl ?_)
  refine (LK.out _ B4.out).mono ?_
  rintro e w5 ⟨rfl, hb5⟩
  obtain ⟨w6, hw6⟩ : ∃ w6, w6 = w5.alloc (.cells (ruleV r) 30) := ⟨_, rfl⟩
  have b46 : Below w4.heap.size w4 w6 := by rw [hw6]; exact hb5.alloc hb5.size _
  have R6 : Hid (w6.heap[w.heap.size]? = some (.cells (hv H) 24 (0, 0))) := (b46.block _ (Array.getElem?_eq_some_iff.1 R4.out).1).trans R4.out
  have B6 : Hid (Below w.heap.size w w6) := B4.out.trans (b46.mono B4.out.size)
  have X6 : Hid (w6.heap[w5.heap.size]? = some (.cells (ruleV r) 30 (0, 0))) := by show _ = _; rw [hw6]; exact heap_new _ _ _ rfl
  have hkf : kf < nt := by have := (List.getElem?_eq_some_iff.1 XF.out).1; have := HNT.out; omega
  obtain ⟨g, off, cur, ty, fr, x, u, rfl, hg, hc, hxk, hxu⟩ := (NSl.below LfR.below A4.out b46).at kf hkf
  obtain rfl : xf = x := by rw [XF.out] at hxk; exact Option.some.inj hxk
  obtain ⟨r2, hr2, ho2, ha2, LY0⟩ := LX.out u w6 hxu.1 hxu.rules
  obtain ⟨o2, m2, hu2⟩ := hxu.slice
  have K1 : Hid (w6.heap[g]? = some (.cells cur ty fr)) := hg
  have hc28 : cur[off + kf * 29 + 28]? = some u := by
    have h3 := hc 28 (by show 28 < 29; omega)
    rw [(leaf_at hxu.1 u).2.2.2] at h3
    exact h3
  have hkf' : (kf : Int) < (nt : Int) := by omega
  have LY : Hid (∀ W', Below w6.heap.size w6 W' → Calls Try.prog 11 #[u, .agg (hv H)] W' fun e w' => e = .returned (.tuple #[.agg (ruleV r2), .bool ok]) ∧ Below W'.heap.size W' w') := LY0
  have hfit := rule_fits hr2
  have ho3 : Hid (r2.order = r.order) := ho2
  have ha3 : Hid (r2.action = r.action) := ha2
  have HR2 : Hid (okR8 r2) := hr2
  clear hg hc hxk hxu b46 hb5 A4 R4 B4 LY0 ho2 ha2 LX
  subst hu2
  go_wp2_with (refine wl_storeE (E := RuleE) RuleOk rfl _ _ rfl w5.heap.size (ruleV r) (rule_fits HR.out) rfl rfl _ (heap_new _ _ _ rfl) rfl _ (setRow_new _ _ _ _ _ rfl) ?_; refine of_stopT ?_)
  unfold StopT
  rw [← hw6]
  clear hw6
  generalize w5.heap.size = q5 at X6
  go_wp2_with fail
  have l28 : ∀ v : Later w6, v.world.cell? ⟨g, off + kf * 29 + 28, none⟩ = some (.slice o2 xf.rules.length m2) := later_cell12 K1.out hc28
  have ne1 := Later.ne w6
  refine region_cut (fun a a' w' => ∃ gq y45 y46 y47 y48 y49 y50 y51 y52 y53 y54, a' = ((((((((((((a.put (some 16) (.pointer (some ⟨gq, 0, none⟩))).put (some 17) (.bool ok)).put (some 45) y45).put (some 46) y46).put (some 47) y47).put (some 48) y48).put (some 49) y49).put (some 50) y50).put (some 51) y51).put (some 52) y52).put (some 53) y53).put (some 54) y54) ∧ w6.heap.size ≤ gq ∧ w'.heap[gq]? = some (.cells (ruleV r2) 30 (0, 0)) ∧ Below w6.heap.size w6 w') ?_ ?_
  · refine region_begin 13 rfl (by kernel_rfl) ?_
    refine region_reads 0 6 7 rfl (by kernel_rfl) (by kernel_rfl) (by kernel_rfl) (by intro d v c a w h; exact absurd h.1 (by simp)) ⟨⟨w6.drew, (Below.refl _ _).drew⟩, rfl⟩ ?_
    simp only [List.drop_zero, List.take_succ_cons, List.take_zero]
    repeat go_big_quiet_step (fail)
    refine qlH rfl _ rfl w.heap.size rfl H R6.out hHl ?_
    simp only [Act.put, List.setIfInBounds_toArray, List.set_cons_succ, List.set_cons_zero]
    refine wpQuiet_nil ?_
    refine wpAnyH_all (rs := [6, 10]) (by kernel_rfl) (by decide) ?_
    intro i hi
    simp only [List.mem_cons, List.not_mem_nil, or_false] at hi
    rcases hi with rfl | rfl
    · refine wpOp_call rfl rfl 11 #[.tmp 50, .tmp 51] (by intro b w; have hf := Try.func11; simp [go_sem]) #[.slice o2 xf.rules.length m2, .agg (hv H)] rfl (fun v w' => v = .tuple #[.agg (ruleV r2), .bool ok] ∧ Below w6.drew.heap.size w6.drew w') ((LY.out _ (by first | exact (Below.refl w6.heap.size w6).drew | exact ha)).mono fun e w' h => ⟨_, h.1, rfl, h.2⟩) (some 52) rfl ?_
      rintro v wz ⟨rfl, hz⟩
      have hy : Below w6.heap.size w6 wz := (Below.refl w6.heap.size w6).drew.trans (hz.mono (Below.refl w6.heap.size w6).drew.size)
      refine ⟨⟨⟨wz, hy⟩, rfl⟩, ?_⟩
      simp only [Act.put, List.setIfInBounds_toArray, List.set_cons_succ, List.set_cons_zero]
      refine region_reads 7 3 3 rfl (by kernel_rfl) (by kernel_rfl) (by kernel_rfl) (by intro d v c a w h; exact absurd h.1 (by simp)) ⟨⟨wz, hy⟩, rfl⟩ ?_
      simp only [List.drop_succ_cons, List.drop_zero, List.take_succ_cons, List.take_zero]
      repeat go_big_quiet_step (fail)
      refine wpQuiet_nil ?_
      refine wpAnyH_all (rs := [10]) (by kernel_rfl) (by decide) ?_
      intro i hi
      obtain rfl := List.mem_singleton.1 hi
      refine wpOp_allocE RuleOk rfl rfl rfl (some 16) rfl ?_
      have ha : Below w6.heap.size w6 (wz.alloc (.cells RuleE.zero 30)) := hy.alloc hy.size _
      have hag : (wz.alloc (.cells RuleE.zero 30)).heap[wz.heap.size]? = some (.cells RuleE.zero 30 (0, 0)) := heap_new _ _ _ rfl
      refine ⟨⟨⟨_, ha⟩, rfl⟩, ?_⟩
      simp only [Act.put, List.setIfInBounds_toArray, List.set_cons_succ, List.set_cons_zero]
      refine wpAnyH_all (rs := [11]) (by kernel_rfl) (by decide) ?_
      intro i hi
      obtain rfl := List.mem_singleton.1 hi
      have hbl : w6.heap.size ≤ wz.heap.size := hy.size
      refine wpOp_of_list rfl ?_
      refine wl_storeE (E := RuleE) RuleOk rfl _ _ rfl (wz.heap.size) (ruleV r2) hfit rfl rfl _ hag rfl _ rfl ?_
      refine ⟨⟨⟨_, below_setRow ha hbl _⟩, rfl⟩, ?_⟩
      refine wpAnyH_all (rs := [12]) (by kernel_rfl) (by decide) ?_
      intro i hi
      obtain rfl := List.mem_singleton.1 hi
      refine wpOp_assign rfl rfl _ rfl (.bool ok) rfl (some 17) rfl ?_
      refine ⟨⟨⟨_, below_setRow ha hbl _⟩, rfl⟩, ?_⟩
      refine wpAnyH_done (by kernel_rfl) ?_ _
      exact ⟨rfl, wz.heap.size, _, _, _, _, _, _, _, _, _, _, rfl, hbl, setRow_heap _ _ _ _ _ _ hag, below_setRow ha hbl _⟩
    · refine wpOp_allocE RuleOk rfl rfl rfl (some 16) rfl ?_
      have ha : Below w6.heap.size w6 (w6.drew.alloc (.cells RuleE.zero 30)) := (Below.refl w6.heap.size w6).drew.alloc (Below.refl w6.heap.size w6).drew.size _
      have hag : (w6.drew.alloc (.cells RuleE.zero 30)).heap[w6.drew.heap.size]? = some (.cells RuleE.zero 30 (0, 0)) := heap_new _ _ _ rfl
      refine ⟨⟨⟨_, ha⟩, rfl⟩, ?_⟩
      simp only [Act.put, List.setIfInBounds_toArray, List.set_cons_succ, List.set_cons_zero]
      refine wpAnyH_all (rs := [6]) (by kernel_rfl) (by decide) ?_
      intro i hi
      obtain rfl := List.mem_singleton.1 hi
      refine wpOp_call rfl rfl 11 #[.tmp 50, .tmp 51] (by intro b w; have hf := Try.func11; simp [go_sem]) #[.slice o2 xf.rules.length m2, .agg (hv H)] rfl (fun v w' => v = .tuple #[.agg (ruleV r2), .bool ok] ∧ Below (w6.drew.alloc (.cells RuleE.zero 30)).heap.size (w6.drew.alloc (.cells RuleE.zero 30)) w') ((LY.out _ (by first | exact (Below.refl w6.heap.size w6).drew | exact ha)).mono fun e w' h => ⟨_, h.1, rfl, h.2⟩) (some 52) rfl ?_
      rintro v wz ⟨rfl, hz⟩
      have hy : Below w6.heap.size w6 wz := ha.trans (hz.mono ha.size)
      have hx : wz.heap[w6.drew.heap.size]? = some (.cells RuleE.zero 30 (0, 0)) := (hz.block _ (Array.getElem?_eq_some_iff.1 hag).1).trans hag
      refine ⟨⟨⟨wz, hy⟩, rfl⟩, ?_⟩
      simp only [Act.put, List.setIfInBounds_toArray, List.set_cons_succ, List.set_cons_zero]
      refine region_reads 7 3 2 rfl (by kernel_rfl) (by kernel_rfl) (by kernel_rfl) (by intro d v c a w h; exact absurd h.1 (by simp)) ⟨⟨wz, hy⟩, rfl⟩ ?_
      simp only [List.drop_succ_cons, List.drop_zero, List.take_succ_cons, List.take_zero]
      repeat go_big_quiet_step (fail)
      refine wpQuiet_nil ?_
      refine wpAnyH_all (rs := [11]) (by kernel_rfl) (by decide) ?_
      intro i hi
      obtain rfl := List.mem_singleton.1 hi
      have hbl : w6.heap.size ≤ w6.drew.heap.size := Nat.le_refl _
      refine wpOp_of_list rfl ?_
      refine wl_storeE (E := RuleE) RuleOk rfl _ _ rfl (w6.drew.heap.size) (ruleV r2) hfit rfl rfl _ hx rfl _ rfl ?_
      refine ⟨⟨⟨_, below_setRow hy hbl _⟩, rfl⟩, ?_⟩
      refine wpAnyH_all (rs := [12]) (by kernel_rfl) (by decide) ?_
      intro i hi
      obtain rfl := List.mem_singleton.1 hi
      refine wpOp_assign rfl rfl _ rfl (.bool ok) rfl (some 17) rfl ?_
      refine ⟨⟨⟨_, below_setRow hy hbl _⟩, rfl⟩, ?_⟩
      refine wpAnyH_done (by kernel_rfl) ?_ _
      exact ⟨rfl, w6.drew.heap.size, _, _, _, _, _, _, _, _, _, _, rfl, hbl, setRow_heap _ _ _ _ _ _ hx, below_setRow hy hbl _⟩
  · rintro a' w' ⟨gq, y45, y46, y47, y48, y49, y50, y51, y52, y53, y54, rfl, hgq, hcq, hbq⟩
    simp only [Act.put, List.setIfInBounds_toArray, List.set_cons_succ, List.set_cons_zero]
    have B7 : Hid (Below w.heap.size w w') := B6.out.trans (hbq.mono B6.out.size)
    have X7 : Hid (w'.heap[q5]? = some (.cells (ruleV r) 30 (0, 0))) := (hbq.block _ (Array.getElem?_eq_some_iff.1 X6.out).1).trans X6.out
    have c0 : w'.cell? ⟨q5, 0, none⟩ = some (.int .i64 r.order) := (cell_of_row _ _ _ _ _ _ X7.out).trans (rule_at HR.out).1
    have c27 : w'.cell? ⟨q5, 27, none⟩ = some (.int .i64 r.action) := (cell_of_row _ _ _ _ _ _ X7.out).trans (rule_at HR.out).2.2
    have d0 : w'.cell? ⟨gq, 0, none⟩ = some (.int .i64 r.order) := (cell_of_row _ _ _ _ _ _ hcq).trans (by rw [← ho3.out]; exact (rule_at HR2.out).1)
    have d27 : w'.cell? ⟨gq, 27, none⟩ = some (.int .i64 r.action) := (cell_of_row _ _ _ _ _ _ hcq).trans (by rw [← ha3.out]; exact (rule_at HR2.out).2.2)
    have hbb : (ok == ok) = true := by simp
    clear hcq hbq hgq
    go_wp2_with fail
    go_ret
    exact ⟨rfl, B7.out⟩
end Go.Proofs.Ytbhnjhiecoapbaa
namespace Go.Proofs.Ytbhnjhiecoapbaa
open Go Go.Lib Go.RowKit Ieee
set_option maxRecDepth 20000

set_option maxHeartbeats 8000000 in
set_option maxRecDepth 100000 in
theorem lawUFew_any (l0 : List RuleM) (hok0 : ∀ r ∈ l0, okR8 r) (vl : Value) (L0 G : Int) (b : Nat) (hwb : Wd b) (w : World) (hl0 : RulesAt w vl l0) :
    Calls Try.prog 8 #[vl, .int .i64 L0, .int .i64 G, .float .f64 b] w fun e w' => e = .returned (.bool true) ∧ Below w.heap.size w w' := by
  obtain ⟨o, n0, n, cap, l, rfl, K⟩ := cut24 hok0 hl0
  have hc1 := K.cap1
  have hc2 := K.cap2
  unfold maxLen at hc2
  have hn0' := K.le
  have HNM : Hid ((n : Int) = min (n0 : Int) 24) := K.min
  have hn24 : n ≤ 24 := by have := K.min; omega
  have hsl := K.slice
  have hlen : l.length ≤ 100000 := by rw [K.len]; have := K.min; omega
  obtain ⟨L, hLe⟩ : ∃ L, L = min L0 12 := ⟨_, rfl⟩
  have HLM : Hid (L = min L0 12) := hLe
  have hL1 : L ≤ 1000 := by omega
  have AW : Hid (∀ W, Calls Try.prog 9 #[] W fun e w' => e = .returned (.bool true) ∧ Below W.heap.size W w') := fun W => awake12_any W
  have TR : Hid (∀ W, Below w.heap.size w W → Calls Try.prog 18 #[.slice o n cap, .int .i64 L, .int .i64 G, .float .f64 b] W fun e w' => (∃ v, e = .returned v ∧ LeavesOwn W.heap.size w' v (treeT b L G l)) ∧ Below W.heap.size W w') := fun W hb => tree_any l K.ok hlen _ L G hL1 b hwb W (GSl.below K.at_ hb)
  obtain ⟨hf1, hf2, hf3⟩ := tree_few b L G l
  have hok2 := (tree_ok b L G l).ok
  generalize treeT b L G l = T at TR hf1 hf2 hf3 hok2
  have hT1 : T.length ≤ 100000 := by omega
  have FEW : Hid ((T.length : Int) < L → ∀ x ∈ T, canB b G x = false) := hf3
  have LO : Hid (∀ x ∈ T, x.one = 0 ∧ x.two = 0 ∧ x.rules.length ≤ n) := fun x hx => ⟨(hok2 x hx).1, (hok2 x hx).2.1, by have := (hok2 x hx).2.2.1; rw [K.len] at this; exact this⟩
  have BE : Hid (∀ (x : LeafM) u W, okL x → x.rules.length ≤ n → RulesAt W u x.rules → Calls Try.prog 15 #[u, .agg (cv x.cube.1 x.cube.2), .float .f64 b] W fun e w' => e = .returned (.tuple #[.int .i64 (bI (bestO x.cube.1 x.cube.2 x.rules b 104) : Nat), .bool (bestO x.cube.1 x.cube.2 x.rules b 104).isSome]) ∧ Below W.heap.size W w') := fun x u W h1 h2 h3 => bst_any x.rules h1.2.2 (by omega) u x.cube.1 x.cube.2 h1.1 h1.2.1 b hwb W h3
  obtain ⟨mx, hmx⟩ : ∃ mx, mx = max 1 L := ⟨_, rfl⟩
  have HMX : Hid (mx = max 1 L) := hmx
  rw [← hmx] at hf2
  clear K hl0 hok0 hlen hLe hL1 hok2 hf3 hmx
  go_enter Try.func8, Try.ntmps8
  go_wp2_with fail
  refine (AW.out _).mono ?_
  rintro e w1 ⟨rfl, B1⟩
  have B1 : Hid (Below w.heap.size w w1) := B1
  go_wp2_with (first | (refine wl_min7 rfl _ _ rfl (n0 : Int) 24 (n : Int) rfl rfl HNM.out ?_) | (refine wl_min7 rfl _ _ rfl L0 12 L rfl rfl HLM.out ?_))
  refine (TR.out _ B1.out).mono ?_
  rintro e w2 ⟨⟨vt, rfl, ho2⟩, hb2⟩
  have B2 : Hid (Below w.heap.size w w2) := B1.out.trans (hb2.mono B1.out.size)
  obtain ⟨B, hB⟩ : ∃ B, B = w1.heap.size := ⟨_, rfl⟩
  rw [← hB] at ho2
  obtain ⟨ot, ct, rfl, ht1, ht2⟩ := leaves_own_slice ho2
  unfold maxLen at ht2
  obtain ⟨nt, hnt⟩ : ∃ nt, nt = T.length := ⟨_, rfl⟩
  have A2 : Hid (LeavesAt B w2 (.slice ot nt ct) T) := by show LeavesAt _ _ _ _; rw [hnt]; exact leaves_sl ho2
  have HNT : Hid (nt = T.length) := hnt
  rw [← hnt] at ht1 hT1 hf1 hf2 ⊢
  clear hb2 ho2 B1 hB hnt
  have hg0 : decide ((nt : Int) < 1) = false := by simp; omega
  have hg1 : decide (mx < (nt : Int)) = false := by simp; omega
  go_wp2_with (refine wl_maxIg rfl _ _ rfl 1 L mx rfl rfl HMX.out ?_)
  go_loopw [10] (fun i wr => ∃ (k : Nat), k ≤ nt ∧ i = .int .i64 (k : Int) ∧ Hid (Below w2.heap.size w2 wr)) (fun i _ => nt - (intOf i).toNat)
  case atStart => exact ⟨0, Nat.zero_le _, rfl, Below.refl _ _⟩
  case round =>
    obtain ⟨k, hk, rfl, HB⟩ := hrel
    by_cases hlt : k < nt
    · have hlt' : (k : Int) < (nt : Int) := by omega
      obtain ⟨g, off, cur, ty, fr, x, u, rfl, hg, hc, hxk, hxu⟩ := (NSl.below LfR.below A2.out HB.out).at k hlt
      obtain ⟨hx1, hx2, hx3⟩ := LO.out x (List.mem_of_getElem? hxk)
      obtain ⟨o2, m2, hu2⟩ := hxu.slice
      have HX : Hid (okL x) := hxu.1
      have K1 : Hid (wr.heap[g]? = some (.cells cur ty fr)) := hg
      have H2 : Hid (∀ j, j < 26 → cur[off + k * 29 + j]? = (cv x.cube.1 x.cube.2)[j]?) := fun j hj => by
        have h3 := hc j (by show j < 29; omega)
        rw [(leaf_at hxu.1 u).1 j hj] at h3
        exact h3
      have hc26 : cur[off + k * 29 + 26]? = some (.int .i64 0) := by
        have h3 := hc 26 (by show 26 < 29; omega)
        rw [(leaf_at hxu.1 u).2.1, hx1] at h3
        exact h3
      have hc27 : cur[off + k * 29 + 27]? = some (.int .i64 0) := by
        have h3 := hc 27 (by show 27 < 29; omega)
        rw [(leaf_at hxu.1 u).2.2.1, hx2] at h3
        exact h3
      have hc28 : cur[off + k * 29 + 28]? = some u := by
        have h3 := hc 28 (by show 28 < 29; omega)
        rw [(leaf_at hxu.1 u).2.2.2] at h3
        exact h3
      have HRU : Hid (RulesAt wr u x.rules) := hxu.rules
      have CB : Hid ((nt : Int) < L → G < (x.rules.length : Int) → (bestO x.cube.1 x.cube.2 x.rules b 104).isSome = false) := fun h1 h2 => by
        have := FEW.out (by rw [← HNT.out]; exact h1) x (List.mem_of_getElem? hxk)
        unfold canB bitO at this
        rw [if_pos h2] at this
        simpa using this
      have BX : Hid (∀ W, Below wr.heap.size wr W → Calls Try.prog 15 #[u, .agg (cv x.cube.1 x.cube.2), .float .f64 b] W fun e w' => e = .returned (.tuple #[.int .i64 (bI (bestO x.cube.1 x.cube.2 x.rules b 104) : Nat), .bool (bestO x.cube.1 x.cube.2 x.rules b 104).isSome]) ∧ Below W.heap.size W w') := fun W hb => BE.out x u W HX.out hx3 (GSl.below HRU.out hb)
      generalize ((bI (bestO x.cube.1 x.cube.2 x.rules b 104) : Nat) : Int) = z at BX
      generalize (bestO x.cube.1 x.cube.2 x.rules b 104).isSome = y at BX CB
      have d26 : wr.cell? ⟨g, off + k * 29 + 26, none⟩ = some (.int .i64 0) := (cell_of_row _ _ _ _ _ _ K1.out).trans hc26
      have d27 : wr.cell? ⟨g, off + k * 29 + 27, none⟩ = some (.int .i64 0) := (cell_of_row _ _ _ _ _ _ K1.out).trans hc27
      have hVl := HX.out.1.1
      have hMl := HX.out.2.1.1
      subst hu2
      have d28 : wr.cell? ⟨g, off + k * 29 + 28, none⟩ = some (.slice o2 x.rules.length m2) := (cell_of_row _ _ _ _ _ _ K1.out).trans hc28
      have e28 : ∀ v : Later wr, v.world.cell? ⟨g, off + k * 29 + 28, none⟩ = some (.slice o2 x.rules.length m2) := later_cell12 K1.out hc28
      have C28 : Hid (cur[off + k * 29 + 28]? = some (.slice o2 x.rules.length m2)) := hc28
      clear hg hc hxk hxu hx1 hx2 hc26 hc27 hc28 HRU HX
      generalize x.rules.length = rl at *
      have hrl : decide ((n : Int) < (rl : Int)) = false := by simp; omega
      go_wp2_with fail
      have ne1 := Later.ne wr
      refine wp_region_later (by kernel_rfl) (by kernel_rfl) ?_
      repeat go_big_quiet_step (fail)
      refine qlCw rfl _ rfl g (off + k * 29) rfl cur ty fr x.cube.1 x.cube.2 hVl hMl (later_block K1.out) H2.out ?_
      simp only [Act.put, List.setIfInBounds_toArray, List.set_cons_succ, List.set_cons_zero]
      repeat go_big_quiet_step (fail)
      go_big_quiet_want; go_big_quiet_op
      refine ⟨_, fun u => Calls.later_of (BX.out u.world u.below), ?_⟩
      go_big_quiet_on
      repeat go_big_quiet_step (fail)
      refine wpQuiet_nil ?_
      rintro w3 ⟨v5, rfl⟩
      have hb3 := v5.below
      obtain ⟨w3, hw3⟩ : ∃ w3, w3 = v5.world := ⟨_, rfl⟩
      rw [← hw3] at hb3 ⊢
      have B3 : Hid (Below w2.heap.size w2 w3) := HB.out.trans (hb3.mono HB.out.size)
      have K3 : Hid (w3.heap[g]? = some (.cells cur ty fr)) := (hb3.block _ (Array.getElem?_eq_some_iff.1 K1.out).1).trans K1.out
      have f28 : w3.cell? ⟨g, off + k * 29 + 28, none⟩ = some (.slice o2 rl m2) := (cell_of_row _ _ _ _ _ _ K3.out).trans C28.out
      clear hb3 hw3 v5 ne1 K1 HB d26 d27 d28 e28
      cases hy : y with
      | false =>
        clear hy
        go_wp2_with fail
        go_roundw
        case rel => exact ⟨k + 1, by omega, by go_num, B3⟩
        case measure => simp [intOf]; omega
      | true =>
        by_cases hG : G < (rl : Int)
        · have hnl : ¬ (nt : Int) < L := fun h => by have := CB.out h hG; rw [hy] at this; cases this
          have hG' : decide (G < (rl : Int)) = true := by simpa using hG
          have hnl' : decide ((nt : Int) < L) = false := by simpa using hnl
          clear hy
          go_wp2_with fail
          go_roundw
          case rel => exact ⟨k + 1, by omega, by go_num, B3⟩
          case measure => simp [intOf]; omega
        · have hG' : decide (G < (rl : Int)) = false := by simpa using hG
          clear hy
          go_wp2_with fail
          go_roundw
          case rel => exact ⟨k + 1, by omega, by go_num, B3⟩
          case measure => simp [intOf]; omega
    · have hlt' : ¬ (k : Int) < (nt : Int) := by omega
      go_wp2_with fail
      go_ret
      exact ⟨rfl, B2.out.trans (HB.out.mono B2.out.size)⟩
end Go.Proofs.Ytbhnjhiecoapbaa
