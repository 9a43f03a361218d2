import Derived.Test.YtpbinkmeldkehaaJ12
namespace Go.Proofs.Ytpbinkmeldkehaa
open Go Go.RowKit
set_option maxRecDepth 20000

/-- As InvR, with a word on the world that turns when operation m has come up. -/
structure InvM (ops : Array Oper) (V : Nat → Value → World → Prop) (D : List Nat) (I : Bool → World → Prop) (m : Nat) (a0 : Act) (listed : Array Bool) (a : Act) (w : World) : Prop where
  wld : I (listed.getD m false) w
  size : a.tmps.size = a0.tmps.size
  defers : a.defers = a0.defers
  other : ∀ d, d ∉ D → a.eval (.tmp d) = a0.eval (.tmp d)
  has : ∀ j o d, ops[j]? = some o → o.dst = some d → listed.getD j false = true → V j (a.eval (.tmp d)) w
/-- What an operation finds when it comes up. -/
structure AtM (ops : Array Oper) (V : Nat → Value → World → Prop) (D : List Nat) (I : Bool → World → Prop) (b : Bool) (a0 : Act) (o : Oper) (a : Act) (w : World) : Prop where
  wld : I b w
  size : a.tmps.size = a0.tmps.size
  defers : a.defers = a0.defers
  other : ∀ d, d ∉ D → a.eval (.tmp d) = a0.eval (.tmp d)
  has : ∀ e ∈ o.after, Region.binds .any e = true → ∀ oj d, ops[e.on]? = some oj → oj.dst = some d → V e.on (a.eval (.tmp d)) w
/-- A drawn region whose last operation waits for all others, one of which (m) may change what lies in memory, while all others make memory at most. -/
theorem region_mid {P : Program} {id : Nat} {Q : Exit → Act → World → Prop} {a0 : Act} {w0 : World} {lo : List Oper} (n m : Nat) (V : Nat → Value → World → Prop) (I : Bool → World → Prop) (D : List Nat) (hm : P.follows .mixedOrders = true) (hmn : m < n)
    (hn : lo.length = n + 1) (hD : (lo.filterMap (·.dst)) = D) (hnd : D.Nodup) (hsz : ∀ d ∈ D, d < a0.tmps.size) (hdag : (lo.zipIdx.all fun x => x.1.after.all fun e => decide (e.on < x.2)) = true)
    (hlast : (lo[n]?).map (fun o => (List.range n).all fun j => o.after.any fun e => e.on == j && Region.binds .any e) = some true)
    (hV : ∀ j v w w', V j v w → Below w.heap.size w w' → V j v w') (hI : ∀ b w w', I b w → Below w.heap.size w w' → I b w') (hI0 : I false w0.drew)
    (hop : ∀ i o, lo[i]? = some o → i < n → i ≠ m → ∀ b a w, AtM lo.toArray V D I b a0 o a w → wpOp P lo.toArray Q i (fun a' w' => ∃ v, a' = a.put o.dst v ∧ Below w.heap.size w w' ∧ ∀ d, o.dst = some d → V i v w') a w)
    (hmid : ∀ o, lo[m]? = some o → ∀ a w, AtM lo.toArray V D I false a0 o a w → wpOp P lo.toArray Q m (fun a' w' => ∃ v, a' = a.put o.dst v ∧ I true w' ∧ (∀ j u, j ≠ m → V j u w → V j u w') ∧ ∀ d, o.dst = some d → V m v w') a w)
    (hend : ∀ a w, I true w → a.tmps.size = a0.tmps.size → a.defers = a0.defers → (∀ d, d ∉ D → a.eval (.tmp d) = a0.eval (.tmp d)) → (∀ j o d, j < n → lo[j]? = some o → o.dst = some d → V j (a.eval (.tmp d)) w) → wpOp P lo.toArray Q n (fun a' w' => Q .normal a' w') a w) : (Code.region id lo.toArray true).wp P Q a0 w0 := by
  refine wp_region_any hm ?_
  have hdag' : ∀ (i : Nat) (o : Oper), lo.toArray[i]? = some o → ∀ e ∈ o.after, e.on < i := fun i o ho e he => by
    rw [List.all_eq_true] at hdag
    have ho' : lo[i]? = some o := by simpa using ho
    obtain ⟨hi, rfl⟩ := List.getElem?_eq_some_iff.1 ho'
    have := hdag (lo[i], i) (List.mem_zipIdx_iff_getElem?.2 (List.getElem?_eq_getElem hi))
    simp only [Array.all_eq_true_iff_forall_mem] at this
    simpa using this e he
  have hnd' := hnd
  have hDa : (lo.toArray.toList.filterMap (·.dst)) = D := by simpa using hD
  have inD : ∀ (i : Nat) (o : Oper) (d : Nat), lo.toArray[i]? = some o → o.dst = some d → d ∈ D := fun i o d ho hd => by
    rw [← hD, List.mem_filterMap]
    exact ⟨o, List.mem_of_getElem? (by simpa using ho), hd⟩
  have key : ∀ (f : Nat) (listed : Array Bool) (a : Act) (w : World), listed.toList.count false = f → listed.size = n + 1 → listed.getD n true = false → InvM lo.toArray V D I m a0 listed a w → wpAny P .any lo.toArray Q f listed a w := by
    intro f
    induction f with
    | zero =>
      intro listed a w hc hs hln inv
      exfalso
      have : false ∈ listed.toList := by
        rw [Array.getD_eq_getD_getElem?, Array.getElem?_eq_getElem (by omega)] at hln
        have h3 : listed[n]'(by omega) = false := by simpa using hln
        rw [← h3]; exact Array.mem_toList_iff.2 (Array.getElem_mem (by omega))
      have := List.count_pos_iff.2 this
      omega
    | succ f ih =>
      intro listed a w hc hs hln inv
      refine ⟨fun hr => absurd hr (ready_some (by simpa [hn] using hs) hdag' n hln), fun i hi => ?_⟩
      obtain ⟨hiu, o, ho, hdeps⟩ := mem_ready.1 hi
      have hil : i < listed.size := by
        rw [Array.getD_eq_getD_getElem?] at hiu
        rcases Nat.lt_or_ge i listed.size with h1 | h1
        · exact h1
        · rw [Array.getElem?_eq_none h1] at hiu; simp at hiu
      have hcnt := falses_set listed i hiu
      by_cases hin : i = n
      · subst hin
        have hol : lo[i]? = some o := by simpa using ho
        have hall : ∀ j, j < i → listed.getD j false = true := fun j hj => by
          rw [hol] at hlast
          simp only [Option.map_some, Option.some.injEq, List.all_eq_true, List.mem_range] at hlast
          have := hlast j hj
          rw [Array.any_eq_true'] at this
          obtain ⟨e, he, hb⟩ := this
          simp only [Bool.and_eq_true, beq_iff_eq] at hb
          rw [← hb.1]
          exact hdeps e he hb.2
        refine wpOp_mono (fun a' w' hQ => ?_) (hend a w (by have := inv.wld; rwa [hall m hmn] at this) inv.size inv.defers inv.other (fun j oj d hj hoj hd => inv.has j oj d (by simpa using hoj) hd (hall j hj)))
        have h0 : (listed.setIfInBounds i true).toList.count false = 0 := by
          rw [List.count_eq_zero]
          intro hmem
          obtain ⟨j, hj, hje⟩ := List.mem_iff_getElem.1 hmem
          rw [Array.getElem_toList] at hje
          have hj' : j < listed.size := by simpa using hj
          by_cases hji : i = j
          · subst hji
            rw [Array.getElem_setIfInBounds_self] at hje
            simp at hje
          · rw [Array.getElem_setIfInBounds_ne hj' hji] at hje
            have := hall j (by omega)
            rw [Array.getD_eq_getD_getElem?, Array.getElem?_eq_getElem hj'] at this
            simp [hje] at this
        obtain rfl : f = 0 := by omega
        exact ⟨ready_none h0, hQ⟩
      · have hlt : i < n := by omega
        have hol : lo[i]? = some o := by simpa using ho
        by_cases him : i = m
        · subst him
          have hno : listed.getD i false = false := getD_tf hiu
          refine wpOp_mono (fun a' w' hK => ?_) (hmid o hol a w ⟨by have := inv.wld; rwa [hno] at this, inv.size, inv.defers, inv.other, fun e he hb oj d hoj hd => inv.has e.on oj d hoj hd (hdeps e he hb)⟩)
          obtain ⟨v, rfl, hIw, hst, hv⟩ := hK
          have hset : (listed.setIfInBounds i true).getD i false = true := by
            rw [Array.getD_eq_getD_getElem?, Array.getElem?_setIfInBounds_self_of_lt hil]; rfl
          refine ih _ _ _ (by omega) (by simpa using hs) (by rw [getD_set_ne' hin]; exact hln) ⟨by rw [hset]; exact hIw, by rw [size_put]; exact inv.size, ?_, fun d hd => ?_, fun j oj d hoj hd hlj => ?_⟩
          · have : (a.put o.dst v).defers = a.defers := by cases o.dst <;> rfl
            rw [this]; exact inv.defers
          · cases hdo : o.dst with
            | none => exact inv.other d hd
            | some k =>
              rw [eval_put _ _ _ _ (by rw [inv.size]; exact hsz k (inD i o k ho hdo)), if_neg (fun h : d = k => hd (by rw [h]; exact inD i o k ho hdo))]
              exact inv.other d hd
          · by_cases hji : j = i
            · subst hji
              obtain rfl : oj = o := Option.some.inj (hoj.symm.trans ho)
              rw [hd, eval_put _ _ _ _ (by rw [inv.size]; exact hsz d (inD j oj d ho hd)), if_pos rfl]
              exact hv d hd
            · rw [getD_set_ne' (Ne.symm hji)] at hlj
              have h1 := hst _ _ hji (inv.has j oj d hoj hd hlj)
              cases hdo : o.dst with
              | none => exact h1
              | some k =>
                have hkd : ¬ d = k := fun h => hji (dst_apart hDa hnd' hoj ho hd (by rw [h]; exact hdo))
                rw [eval_put _ _ _ _ (by rw [inv.size]; exact hsz k (inD i o k ho hdo)), if_neg hkd]
                exact h1
        · refine wpOp_mono (fun a' w' hK => ?_) (hop i o hol hlt him (listed.getD m false) a w ⟨inv.wld, inv.size, inv.defers, inv.other, fun e he hb oj d hoj hd => inv.has e.on oj d hoj hd (hdeps e he hb)⟩)
          obtain ⟨v, rfl, hbw, hv⟩ := hK
          refine ih _ _ _ (by omega) (by simpa using hs) (by rw [getD_set_ne' hin]; exact hln) ⟨by rw [getD_set_ne' him]; exact hI _ _ _ inv.wld hbw, by rw [size_put]; exact inv.size, ?_, fun d hd => ?_, fun j oj d hoj hd hlj => ?_⟩
          · have : (a.put o.dst v).defers = a.defers := by cases o.dst <;> rfl
            rw [this]; exact inv.defers
          · cases hdo : o.dst with
            | none => exact inv.other d hd
            | some k =>
              rw [eval_put _ _ _ _ (by rw [inv.size]; exact hsz k (inD i o k ho hdo)), if_neg (fun h : d = k => hd (by rw [h]; exact inD i o k ho hdo))]
              exact inv.other d hd
          · by_cases hji : j = i
            · subst hji
              obtain rfl : oj = o := Option.some.inj (hoj.symm.trans ho)
              rw [hd, eval_put _ _ _ _ (by rw [inv.size]; exact hsz d (inD j oj d ho hd)), if_pos rfl]
              exact hv d hd
            · rw [getD_set_ne' (Ne.symm hji)] at hlj
              have h1 := (fun h => hV _ _ _ _ h hbw) (inv.has j oj d hoj hd hlj)
              cases hdo : o.dst with
              | none => exact h1
              | some k =>
                have hkd : ¬ d = k := fun h => hji (dst_apart hDa hnd' hoj ho hd (by rw [h]; exact hdo))
                rw [eval_put _ _ _ _ (by rw [inv.size]; exact hsz k (inD i o k ho hdo)), if_neg hkd]
                exact h1
  have hrep : (Array.replicate lo.toArray.size false).toList.count false = lo.toArray.size := by simp
  refine key _ _ _ _ hrep (by simp [hn]) ?_ ⟨?_, rfl, rfl, fun _ _ => rfl, fun j o d _ _ hl => ?_⟩
  · rw [Array.getD_eq_getD_getElem?, Array.getElem?_eq_getElem (by simp [hn])]
    simp
  · rw [Array.getD_eq_getD_getElem?, Array.getElem?_eq_getElem (by simp [hn]; omega)]
    simpa using hI0
  · exfalso
    rw [Array.getD_eq_getD_getElem?] at hl
    rcases Nat.lt_or_ge j (Array.replicate lo.toArray.size false).size with h1 | h1
    · rw [Array.getElem?_eq_getElem h1] at hl; simp at hl
    · rw [Array.getElem?_eq_none h1] at hl; simp at hl
end Go.Proofs.Ytpbinkmeldkehaa
namespace Go.Proofs.Ytpbinkmeldkehaa
open Go Go.Lib Go.RowKit
set_option maxRecDepth 20000

/-! deal.Deal's drawn regions. -/
theorem run_index13 {o : Oper} {t : Nat} {x y : Operand} (ho : o.op = .indexAddr t x y) (a : Act) (W : World) (u z v : Value) (hu : a.eval x = u) (hz : a.eval y = z) (h : (Instr.indexAt t u z).run Try.prog W = .ok v W) : (execOp a.eval o).run Try.prog W = .ok (.value v) W := by
  unfold execOp
  simp only [ho, Sem.run_bind, hu, hz, h, Result.andThen_ok, Sem.run_pure]
theorem load_int13 (W : World) (ad : Addr) (n : Int) (h : W.cell? ad = some (.int .i64 n)) : (Instr.loadAt 3 (.pointer (some ad))).run Try.prog W = .ok (.int .i64 n) W := by
  simp [go_sem, h]
def d6_ops : List Oper := [
  { dst := some 31, op := .load 81 (.tmp 10), type := 81, pos := "deal.go:23", after := #[], guard := none },
  { dst := some 32, op := .move (.tmp 0), type := 28, pos := "deal.go:23", after := #[], guard := none },
  { dst := some 33, op := .move (.tmp 13), type := 3, pos := "deal.go:23", after := #[], guard := none },
  { dst := some 34, op := .indexAddr 28 (.tmp 32) (.tmp 33), type := 0, pos := "deal.go:23", after := #[{ on := 1, ground := .data }, { on := 2, ground := .data }], guard := none },
  { dst := some 35, op := .load 3 (.tmp 34), type := 3, pos := "deal.go:23", after := #[{ on := 3, ground := .data }], guard := none },
  { dst := some 36, op := .call { callee := .value (.func 44), args := #[.tmp 31, .tmp 35, .const (.int .i64 0)], argTypes := #[81, 3, 3] }, type := 3, pos := "deal.go:23", after := #[{ on := 0, ground := .data }, { on := 4, ground := .data }], guard := none },
  { dst := some 14, op := .assign (.tmp 36), type := 3, pos := "deal.go:23", after := #[{ on := 5, ground := .data }, { on := 5, ground := .chain }, { on := 0, ground := .phase }, { on := 1, ground := .phase }, { on := 2, ground := .phase }, { on := 3, ground := .phase }, { on := 4, ground := .phase }, { on := 5, ground := .phase }], guard := none }]
def d6_D : List Nat := [31, 32, 33, 34, 35, 36, 14]
def d6_V (g : Nat) (vw : Value) (room : Int) (vz : Value) (i gz oz : Nat) (x : Int) (_ r : Nat) (j : Nat) (v : Value) (_ : World) : Prop :=
  match j with
  | 0 => v = .agg (tabA g vw room)
  | 1 => v = vz
  | 2 => v = .int .i64 (i : Int)
  | 3 => v = .pointer (some ⟨gz, oz + i, none⟩)
  | 4 => v = .int .i64 x
  | 5 => v = .int .i64 (r : Int)
  | _ => True
set_option maxHeartbeats 4000000 in
theorem d6_region {id : Nat} {Q : Exit → Act → World → Prop} {a0 : Act} {w0 : World} (hs : 64 ≤ a0.tmps.size) (g q : Nat) (vw : Value) (room : Int) (i gz oz nz cz : Nat) (x : Int) (but r : Nat) (th : Nat → Bool) (ld2 : Nat → Int)
    (h10 : a0.eval (.tmp 10) = .pointer (some ⟨q, 0, none⟩)) (h0 : a0.eval (.tmp 0) = .slice (some ⟨gz, oz, none⟩) nz cz) (h13 : a0.eval (.tmp 13) = .int .i64 (i : Int)) (hbut : but = 0) (hi : i < nz)
    (hq : w0.heap[q]? = some (.cells (tabA g vw room) 81 (0, 0))) (cur : Array Value) (t : TypeId) (fr : Nat × Nat) (hgz : w0.heap[gz]? = some (.cells cur t fr)) (hx : cur[oz + i]? = some (.int .i64 x))
    (hqg : ¬ q = g) (hzg : ¬ gz = g) (HG : ∀ W, Below w0.heap.size w0 W → Calls Try.prog 44 #[.agg (tabA g vw room), .int .i64 x, .int .i64 (but : Int)] W fun e w' => e = .returned (.int .i64 (r : Int)) ∧ MapL w' g th ld2 ∧ Kept (fun k => k = g) W w')
    (hK : ∀ y w', y 14 = .int .i64 (r : Int) → MapL w' g th ld2 → Kept (fun k => k = g) w0 w' → Q .normal (putsD d6_D y a0) w') : (Code.region id d6_ops.toArray true).wp Try.prog Q a0 w0 := by
  have hDs : ∀ d ∈ d6_D, d < a0.tmps.size := fun d hd => by
    have : d < 64 := by
      revert hd; unfold d6_D; intro hd
      simp only [List.mem_cons, List.not_mem_nil, or_false] at hd
      omega
    omega
  have frm : ∀ (b : Bool) (w : World), (if b then MapL w g th ld2 ∧ Kept (fun k => k = g) w0 w else Below w0.heap.size w0 w) → Kept (fun k => k = g) w0 w := fun b w h => by
    cases b with
    | true => exact h.2
    | false => exact Kept.of_below h
  refine region_mid 6 5 (d6_V g vw room (.slice (some ⟨gz, oz, none⟩) nz cz) i gz oz x but r) (fun b w => if b then MapL w g th ld2 ∧ Kept (fun k => k = g) w0 w else Below w0.heap.size w0 w) d6_D (by kernel_rfl) (by decide) rfl (by kernel_rfl) (by decide) hDs (by kernel_rfl) (by kernel_rfl) (fun j v w w' h _ => h) ?_ ?_ ?_ ?_ ?_
  · intro b w w' h hb
    cases b with
    | true => exact ⟨h.1.below hb, h.2.add hb⟩
    | false => exact Below.trans h (hb.mono (Below.size h))
  · exact (Below.refl _ _).drew
  · intro k o ho hk hkm b a w h
    have e10 := (h.other 10 (by decide)).trans h10
    have e0 := (h.other 0 (by decide)).trans h0
    have e13 := (h.other 13 (by decide)).trans h13
    have e14 : True := trivial
    have i1 : (Instr.indexAt 28 (.slice (some ⟨gz, oz, none⟩) nz cz) (.int .i64 (i : Int))).run Try.prog w = .ok (.pointer (some ⟨gz, oz + i, none⟩)) w := by
      simp [go_sem, Try.underlying28]; omega
    rcases (show k = 0 ∨ k = 1 ∨ k = 2 ∨ k = 3 ∨ k = 4 by omega) with rfl | rfl | rfl | rfl | rfl
    · obtain rfl := Option.some.inj ho
      have bq : w.heap[q]? = some (.cells (tabA g vw room) 81 (0, 0)) := (frm b w h.wld).heap hq hqg
      exact iv_val rfl rfl _ (run_loadOp rfl _ _ _ _ e10 (load_tab bq)) rfl
    · obtain rfl := Option.some.inj ho
      exact iv_val rfl rfl _ (run_moveOp rfl _ _ _ e0) rfl
    · obtain rfl := Option.some.inj ho
      exact iv_val rfl rfl _ (run_moveOp rfl _ _ _ e13) rfl
    · obtain rfl := Option.some.inj ho
      have g1 : a.eval (.tmp 32) = _ := h.has ⟨1, .data⟩ (by simp) rfl _ 32 rfl rfl
      have g2 : a.eval (.tmp 33) = _ := h.has ⟨2, .data⟩ (by simp) rfl _ 33 rfl rfl
      exact iv_val rfl rfl _ (run_index13 rfl _ _ _ _ _ g1 g2 i1) rfl
    · obtain rfl := Option.some.inj ho
      have g1 : a.eval (.tmp 34) = .pointer (some ⟨gz, oz + i, none⟩) := h.has ⟨3, .data⟩ (by simp) rfl _ 34 rfl rfl
      have c0 : w.cell? ⟨gz, oz + i, none⟩ = some (.int .i64 x) := (cell_of_row _ _ _ _ _ _ ((frm b w h.wld).heap hgz hzg)).trans hx
      exact iv_val rfl rfl _ (run_loadOp rfl _ _ _ _ g1 (load_int13 _ _ _ c0)) rfl
  · intro o ho a w h
    obtain rfl := Option.some.inj ho
    have hb : Below w0.heap.size w0 w := h.wld
    have g1 : a.eval (.tmp 31) = .agg (tabA g vw room) := h.has ⟨0, .data⟩ (by simp) rfl _ 31 rfl rfl
    have g2 : a.eval (.tmp 35) = .int .i64 x := h.has ⟨4, .data⟩ (by simp) rfl _ 35 rfl rfl
    have g3 : a.eval (.const (.int .i64 0)) = .int .i64 (but : Int) := by rw [hbut]; rfl
    have ca : ∀ vs W, (callFunc 44 vs).run Try.prog W = .ok (.enter 44 vs) W := fun vs W => by have hf := Try.func44; simp [go_sem]
    refine wpOp_callQ rfl rfl 44 #[.agg (tabA g vw room), .int .i64 x, .int .i64 (but : Int)] (run_callOps rfl ca _ _ _ (by simp only [List.map_toArray, List.map_cons, List.map_nil, g1, g2, g3])) _ (HG w hb) _ rfl ?_ ?_ ?_
    · rintro v w' ⟨hv, hM, hk⟩
      obtain rfl : v = .int .i64 (r : Int) := by simpa using hv
      exact ⟨_, rfl, ⟨hM, Kept.pre hb hk⟩, fun j u hj hu => hu, fun _ _ => rfl⟩
    · rintro ch w' ⟨hv, _⟩; cases hv
    · rintro w' ⟨hv, _⟩; cases hv
  · intro a w hI hsz hdf hot hh
    have g1 : a.eval (.tmp 36) = .int .i64 (r : Int) := hh 5 _ 36 (by decide) rfl rfl
    refine wpOp_assign rfl rfl _ rfl (.int .i64 (r : Int)) g1 (some 14) rfl ?_
    show Q .normal (a.put (some 14) (.int .i64 (r : Int))) w
    have hsa : 14 < a.tmps.size := by rw [hsz]; exact hDs 14 (by decide)
    have e := puts_form (D := d6_D) (a := a.put (some 14) (.int .i64 (r : Int))) (a0 := a0) (by rw [size_put]; exact hsz) hdf (fun d hd => by
      rw [eval_put _ _ _ _ hsa, if_neg (fun e => hd (by rw [e]; decide))]
      exact hot d hd) hDs
    rw [e]
    refine hK _ w ?_ hI.1 hI.2
    show (a.put (some 14) (.int .i64 (r : Int))).eval (.tmp 14) = _
    rw [eval_put _ _ _ _ hsa, if_pos rfl]
def d7_ops : List Oper := [
  { dst := some 37, op := .load 81 (.tmp 10), type := 81, pos := "deal.go:24", after := #[], guard := none },
  { dst := some 38, op := .move (.tmp 0), type := 28, pos := "deal.go:24", after := #[], guard := none },
  { dst := some 39, op := .move (.tmp 13), type := 3, pos := "deal.go:24", after := #[], guard := none },
  { dst := some 40, op := .indexAddr 28 (.tmp 38) (.tmp 39), type := 0, pos := "deal.go:24", after := #[{ on := 1, ground := .data }, { on := 2, ground := .data }], guard := none },
  { dst := some 41, op := .load 3 (.tmp 40), type := 3, pos := "deal.go:24", after := #[{ on := 3, ground := .data }], guard := none },
  { dst := some 42, op := .move (.tmp 14), type := 3, pos := "deal.go:24", after := #[], guard := none },
  { dst := some 43, op := .call { callee := .value (.func 44), args := #[.tmp 37, .tmp 41, .tmp 42], argTypes := #[81, 3, 3] }, type := 3, pos := "deal.go:24", after := #[{ on := 0, ground := .data }, { on := 4, ground := .data }, { on := 5, ground := .data }], guard := none },
  { dst := some 15, op := .assign (.tmp 43), type := 3, pos := "deal.go:24", after := #[{ on := 6, ground := .data }, { on := 6, ground := .chain }, { on := 0, ground := .phase }, { on := 1, ground := .phase }, { on := 2, ground := .phase }, { on := 3, ground := .phase }, { on := 4, ground := .phase }, { on := 5, ground := .phase }, { on := 6, ground := .phase }], guard := none }]
def d7_D : List Nat := [37, 38, 39, 40, 41, 42, 43, 15]
def d7_V (g : Nat) (vw : Value) (room : Int) (vz : Value) (i gz oz : Nat) (x : Int) (but r : Nat) (j : Nat) (v : Value) (_ : World) : Prop :=
  match j with
  | 0 => v = .agg (tabA g vw room)
  | 1 => v = vz
  | 2 => v = .int .i64 (i : Int)
  | 3 => v = .pointer (some ⟨gz, oz + i, none⟩)
  | 4 => v = .int .i64 x
  | 5 => v = .int .i64 (but : Int)
  | 6 => v = .int .i64 (r : Int)
  | _ => True
set_option maxHeartbeats 4000000 in
theorem d7_region {id : Nat} {Q : Exit → Act → World → Prop} {a0 : Act} {w0 : World} (hs : 64 ≤ a0.tmps.size) (g q : Nat) (vw : Value) (room : Int) (i gz oz nz cz : Nat) (x : Int) (but r : Nat) (th : Nat → Bool) (ld2 : Nat → Int)
    (h10 : a0.eval (.tmp 10) = .pointer (some ⟨q, 0, none⟩)) (h0 : a0.eval (.tmp 0) = .slice (some ⟨gz, oz, none⟩) nz cz) (h13 : a0.eval (.tmp 13) = .int .i64 (i : Int)) (h14 : a0.eval (.tmp 14) = .int .i64 (but : Int)) (hi : i < nz)
    (hq : w0.heap[q]? = some (.cells (tabA g vw room) 81 (0, 0))) (cur : Array Value) (t : TypeId) (fr : Nat × Nat) (hgz : w0.heap[gz]? = some (.cells cur t fr)) (hx : cur[oz + i]? = some (.int .i64 x))
    (hqg : ¬ q = g) (hzg : ¬ gz = g) (HG : ∀ W, Below w0.heap.size w0 W → Calls Try.prog 44 #[.agg (tabA g vw room), .int .i64 x, .int .i64 (but : Int)] W fun e w' => e = .returned (.int .i64 (r : Int)) ∧ MapL w' g th ld2 ∧ Kept (fun k => k = g) W w')
    (hK : ∀ y w', y 15 = .int .i64 (r : Int) → MapL w' g th ld2 → Kept (fun k => k = g) w0 w' → Q .normal (putsD d7_D y a0) w') : (Code.region id d7_ops.toArray true).wp Try.prog Q a0 w0 := by
  have hDs : ∀ d ∈ d7_D, d < a0.tmps.size := fun d hd => by
    have : d < 64 := by
      revert hd; unfold d7_D; intro hd
      simp only [List.mem_cons, List.not_mem_nil, or_false] at hd
      omega
    omega
  have frm : ∀ (b : Bool) (w : World), (if b then MapL w g th ld2 ∧ Kept (fun k => k = g) w0 w else Below w0.heap.size w0 w) → Kept (fun k => k = g) w0 w := fun b w h => by
    cases b with
    | true => exact h.2
    | false => exact Kept.of_below h
  refine region_mid 7 6 (d7_V g vw room (.slice (some ⟨gz, oz, none⟩) nz cz) i gz oz x but r) (fun b w => if b then MapL w g th ld2 ∧ Kept (fun k => k = g) w0 w else Below w0.heap.size w0 w) d7_D (by kernel_rfl) (by decide) rfl (by kernel_rfl) (by decide) hDs (by kernel_rfl) (by kernel_rfl) (fun j v w w' h _ => h) ?_ ?_ ?_ ?_ ?_
  · intro b w w' h hb
    cases b with
    | true => exact ⟨h.1.below hb, h.2.add hb⟩
    | false => exact Below.trans h (hb.mono (Below.size h))
  · exact (Below.refl _ _).drew
  · intro k o ho hk hkm b a w h
    have e10 := (h.other 10 (by decide)).trans h10
    have e0 := (h.other 0 (by decide)).trans h0
    have e13 := (h.other 13 (by decide)).trans h13
    have e14 := (h.other 14 (by decide)).trans h14
    have i1 : (Instr.indexAt 28 (.slice (some ⟨gz, oz, none⟩) nz cz) (.int .i64 (i : Int))).run Try.prog w = .ok (.pointer (some ⟨gz, oz + i, none⟩)) w := by
      simp [go_sem, Try.underlying28]; omega
    rcases (show k = 0 ∨ k = 1 ∨ k = 2 ∨ k = 3 ∨ k = 4 ∨ k = 5 by omega) with rfl | rfl | rfl | rfl | rfl | rfl
    · obtain rfl := Option.some.inj ho
      have bq : w.heap[q]? = some (.cells (tabA g vw room) 81 (0, 0)) := (frm b w h.wld).heap hq hqg
      exact iv_val rfl rfl _ (run_loadOp rfl _ _ _ _ e10 (load_tab bq)) rfl
    · obtain rfl := Option.some.inj ho
      exact iv_val rfl rfl _ (run_moveOp rfl _ _ _ e0) rfl
    · obtain rfl := Option.some.inj ho
      exact iv_val rfl rfl _ (run_moveOp rfl _ _ _ e13) rfl
    · obtain rfl := Option.some.inj ho
      have g1 : a.eval (.tmp 38) = _ := h.has ⟨1, .data⟩ (by simp) rfl _ 38 rfl rfl
      have g2 : a.eval (.tmp 39) = _ := h.has ⟨2, .data⟩ (by simp) rfl _ 39 rfl rfl
      exact iv_val rfl rfl _ (run_index13 rfl _ _ _ _ _ g1 g2 i1) rfl
    · obtain rfl := Option.some.inj ho
      have g1 : a.eval (.tmp 40) = .pointer (some ⟨gz, oz + i, none⟩) := h.has ⟨3, .data⟩ (by simp) rfl _ 40 rfl rfl
      have c0 : w.cell? ⟨gz, oz + i, none⟩ = some (.int .i64 x) := (cell_of_row _ _ _ _ _ _ ((frm b w h.wld).heap hgz hzg)).trans hx
      exact iv_val rfl rfl _ (run_loadOp rfl _ _ _ _ g1 (load_int13 _ _ _ c0)) rfl
    · obtain rfl := Option.some.inj ho
      exact iv_val rfl rfl _ (run_moveOp rfl _ _ _ e14) rfl
  · intro o ho a w h
    obtain rfl := Option.some.inj ho
    have hb : Below w0.heap.size w0 w := h.wld
    have g1 : a.eval (.tmp 37) = .agg (tabA g vw room) := h.has ⟨0, .data⟩ (by simp) rfl _ 37 rfl rfl
    have g2 : a.eval (.tmp 41) = .int .i64 x := h.has ⟨4, .data⟩ (by simp) rfl _ 41 rfl rfl
    have g3 : a.eval (.tmp 42) = .int .i64 (but : Int) := h.has ⟨5, .data⟩ (by simp) rfl _ 42 rfl rfl
    have ca : ∀ vs W, (callFunc 44 vs).run Try.prog W = .ok (.enter 44 vs) W := fun vs W => by have hf := Try.func44; simp [go_sem]
    refine wpOp_callQ rfl rfl 44 #[.agg (tabA g vw room), .int .i64 x, .int .i64 (but : Int)] (run_callOps rfl ca _ _ _ (by simp only [List.map_toArray, List.map_cons, List.map_nil, g1, g2, g3])) _ (HG w hb) _ rfl ?_ ?_ ?_
    · rintro v w' ⟨hv, hM, hk⟩
      obtain rfl : v = .int .i64 (r : Int) := by simpa using hv
      exact ⟨_, rfl, ⟨hM, Kept.pre hb hk⟩, fun j u hj hu => hu, fun _ _ => rfl⟩
    · rintro ch w' ⟨hv, _⟩; cases hv
    · rintro w' ⟨hv, _⟩; cases hv
  · intro a w hI hsz hdf hot hh
    have g1 : a.eval (.tmp 43) = .int .i64 (r : Int) := hh 6 _ 43 (by decide) rfl rfl
    refine wpOp_assign rfl rfl _ rfl (.int .i64 (r : Int)) g1 (some 15) rfl ?_
    show Q .normal (a.put (some 15) (.int .i64 (r : Int))) w
    have hsa : 15 < a.tmps.size := by rw [hsz]; exact hDs 15 (by decide)
    have e := puts_form (D := d7_D) (a := a.put (some 15) (.int .i64 (r : Int))) (a0 := a0) (by rw [size_put]; exact hsz) hdf (fun d hd => by
      rw [eval_put _ _ _ _ hsa, if_neg (fun e => hd (by rw [e]; decide))]
      exact hot d hd) hDs
    rw [e]
    refine hK _ w ?_ hI.1 hI.2
    show (a.put (some 15) (.int .i64 (r : Int))).eval (.tmp 15) = _
    rw [eval_put _ _ _ _ hsa, if_pos rfl]
end Go.Proofs.Ytpbinkmeldkehaa
