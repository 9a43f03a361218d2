import Derived.Test.YtpbinkmeldkehaaJ17
import Derived.Test.YtpbinkmeldkehaaJ7
import Derived.Test.YtpbinkmeldkehaaJ8
namespace Go.Proofs.Ytpbinkmeldkehaa
open Go Go.RowKit
set_option maxRecDepth 20000

/-- How many fit, up to the first that has all. -/
def needF {α : Type} (m q : α → Bool) : List α → Nat
  | [] => 0
  | r :: l => if m r then (if q r then 1 else needF m q l + 1) else needF m q l
theorem need_le {α : Type} (m q : α → Bool) : ∀ l : List α, needF m q l ≤ l.length
  | [] => Nat.le_refl _
  | r :: l => by
    have ih := need_le m q l
    unfold needF
    rw [List.length_cons]
    split
    · split
      · omega
      · omega
    · omega
theorem need_app {α : Type} {m q : α → Bool} : ∀ {A B : List α}, (∀ r ∈ A, m r = true → q r = false) → needF m q (A ++ B) = A.countP m + needF m q B
  | [], B, _ => by simp
  | r :: A, B, h => by
    have ih := need_app (m := m) (q := q) (A := A) (B := B) fun x hx => h x (List.mem_cons_of_mem _ hx)
    rw [List.cons_append, needF, ih, List.countP_cons]
    cases hm : m r with
    | true => rw [if_pos rfl, h r (by simp) hm]; simp; omega
    | false => simp
theorem need_stop {α : Type} {m q : α → Bool} {l : List α} {k : Nat} {r : α} (hr : l[k]? = some r) (h : ∀ j x, j < k → l[j]? = some x → m x = true → q x = false) (hm : m r = true) (hq : q r = true) : needF m q l = (l.take k).countP m + 1 := by
  have hk := (List.getElem?_eq_some_iff.1 hr)
  have e : l = l.take k ++ (r :: l.drop (k + 1)) := by rw [← hk.2, List.getElem_cons_drop, List.take_append_drop]
  have h1 : ∀ x ∈ l.take k, m x = true → q x = false := fun x hx => by
    obtain ⟨j, hj⟩ := List.mem_iff_getElem?.1 hx
    have hj' := (List.getElem?_eq_some_iff.1 hj).1
    rw [List.length_take] at hj'
    rw [List.getElem?_take_of_lt (by omega)] at hj
    exact h j x (by omega) hj
  have h2 := need_app (B := r :: l.drop (k + 1)) h1
  rw [← e] at h2
  rw [h2, needF, if_pos hm, if_pos hq]
theorem need_all {α : Type} {m q : α → Bool} {l : List α} (h : ∀ j x, j < l.length → l[j]? = some x → m x = true → q x = false) : needF m q l = l.countP m := by
  have h1 : ∀ x ∈ l, m x = true → q x = false := fun x hx => by
    obtain ⟨j, hj⟩ := List.mem_iff_getElem?.1 hx
    exact h j x (List.getElem?_eq_some_iff.1 hj).1 hj
  have h2 := need_app (B := []) h1
  rw [List.append_nil] at h2
  simpa [needF] using h2
theorem count_take {α : Type} {m : α → Bool} {l : List α} {k : Nat} {r : α} (hr : l[k]? = some r) : (l.take (k + 1)).countP m = (l.take k).countP m + if m r then 1 else 0 := by
  rw [List.take_add_one, hr, List.countP_append]
  simp [List.countP_cons]
def mR (V M : List Int) (r : RuleM) : Bool := meets r.cube.1 r.cube.2 V M
def fR (V M : List Int) (r : RuleM) : Bool := meetV r.cube.1 r.cube.2 V M == V && meetM r.cube.2 M == M
set_option maxHeartbeats 16000000 in
theorem cnt_any (l : List RuleM) (hl0 : ∀ r ∈ l, okR8 r) (hn1 : l.length ≤ 100000) (vl : Value) (V M : List Int) (hV : Byt V) (hM : Byt M) (w : World) (hl : RulesAt w vl l) :
    Calls Try.prog 61 #[vl, .agg (cv V M)] w fun e w' => e = .returned (.int .i64 (needF (mR V M) (fR V M) l : Nat)) ∧ Below w.heap.size w w' := by
  have ME : Hid (∀ (r : RuleM) W, okR8 r → Calls Try.prog 59 #[.agg (cv r.cube.1 r.cube.2), .agg (cv V M)] W fun e w' => e = .returned (meetR r.cube.1 r.cube.2 V M) ∧ Below W.heap.size W w') := fun r W hr => meet_any r.cube.1 r.cube.2 V M hr.1 hr.2 hV hM W
  have hVl := hV.1
  have hMl := hM.1
  obtain ⟨o, cap, rfl, hc1, hc2⟩ := GSl.slice hl
  obtain ⟨n, hn0⟩ : ∃ n, n = l.length := ⟨_, rfl⟩
  have HN : Hid (n = l.length) := hn0
  rw [← hn0] at hl hc1 hn1 ⊢
  have HL : Hid (RulesAt w (.slice o n cap) l) := hl
  have HOK : Hid (∀ r ∈ l, okR8 r) := hl0
  have NS : Hid (∀ (k : Nat) (r : RuleM), l[k]? = some r → (∀ j x, j < k → l[j]? = some x → mR V M x = true → fR V M x = false) → mR V M r = true → fR V M r = true → needF (mR V M) (fR V M) l = (l.take k).countP (mR V M) + 1) := fun k r h1 h2 h3 h4 => need_stop h1 h2 h3 h4
  have NA : Hid ((∀ j x, j < n → l[j]? = some x → mR V M x = true → fR V M x = false) → needF (mR V M) (fR V M) l = l.countP (mR V M)) := fun h => need_all fun j x hj hx => h j x (by rw [hn0]; exact hj) hx
  unfold maxLen at hc2
  clear hl hn0 hl0 hV hM
  go_enter Try.func61, Try.ntmps61
  go_wp2_with fail
  go_loopw [5, 12] (fun v i wr => ∃ (k m : Nat), k ≤ n ∧ i = .int .i64 (k : Int) ∧ v = .int .i64 (m : Int) ∧ m ≤ k ∧ Hid (m = (l.take k).countP (mR V M)) ∧ Hid (∀ j x, j < k → l[j]? = some x → mR V M x = true → fR V M x = false) ∧ Hid (wr.heap[w.heap.size]? = some (.cells (cv V M) 42 (0, 0))) ∧ Hid (Below w.heap.size w wr)) (fun _ i _ => n - (intOf i).toNat)
  case atStart => exact ⟨0, 0, Nat.zero_le _, rfl, rfl, Nat.le_refl _, rfl, fun j x hj => by omega, heap_new _ _ _ rfl, (Below.refl _ _).alloc (Nat.le_refl _) _⟩
  case round =>
    obtain ⟨k, m, hk, rfl, rfl, hmk, HC, HP, HZ, HB⟩ := hrel
    by_cases hlt : k < n
    · have hlt' : (k : Int) < (n : Int) := by omega
      obtain ⟨g, off, cur, ty, fr, r, rfl, hg, hc, hxk⟩ := (GSl.below HL.out HB.out).at k hlt
      have hr : okR8 r := HOK.out r (List.mem_of_getElem? hxk)
      have HR : Hid (okR8 r) := hr
      have hsz := ruleV_size hr
      have HX : Hid (l[k]? = some r) := hxk
      have K1 : Hid (wr.heap[g]? = some (.cells cur ty fr)) := hg
      have H1 : Hid (∀ j, j < 28 → cur[off + k * 28 + j]? = (ruleV r)[j]?) := hc
      have CT : Hid ((l.take (k + 1)).countP (mR V M) = m + if mR V M r then 1 else 0) := by show _ = _; rw [HC.out]; exact count_take hxk
      obtain ⟨w1, hw1⟩ : ∃ w1, w1 = wr.alloc (.cells (ruleV r) 44) := ⟨_, rfl⟩
      have B1 : Hid (Below wr.heap.size wr w1) := by show Below _ _ _; rw [hw1]; exact (Below.refl _ _).alloc (Nat.le_refl _) _
      have X1 : Hid (w1.heap[wr.heap.size]? = some (.cells (ruleV r) 44 (0, 0))) := by show _ = _; rw [hw1]; exact heap_new _ _ _ rfl
      have C1 : Hid (w1.heap[w.heap.size]? = some (.cells (cv V M) 42 (0, 0))) := (B1.out.block _ (Array.getElem?_eq_some_iff.1 HZ.out).1).trans HZ.out
      have hme := ME.out r w1 hr
      clear hg hc hxk hr
      go_wp2_with (first | ((with_reducible refine wl_gR12 _ rfl ?_); refine wl_loadE (E := RuleE) RuleOk rfl _ rfl g (off + k * 28) rfl cur ty fr (ruleV r) hsz K1.out H1.out ?_) | ((with_reducible refine wl_gSR12 _ _ rfl ?_); refine wl_storeE (E := RuleE) RuleOk rfl _ _ rfl wr.heap.size (ruleV r) (rule_fits HR.out) rfl rfl _ (heap_new _ _ _ rfl) rfl _ (setRow_new _ _ _ _ _ rfl) ?_; refine of_stopT ?_))
      unfold StopT
      rw [← hw1]
      clear hw1
      obtain ⟨q, hq⟩ : ∃ q, q = wr.heap.size := ⟨_, rfl⟩
      rw [← hq] at X1
      rw [← hq]
      clear hq
      go_wp2_with (first | ((with_reducible refine wl_gC12 _ rfl ?_); (first | refine wl_loadCw rfl _ rfl q 1 rfl _ _ _ r.cube.1 r.cube.2 HR.out.1.1 HR.out.2.1 X1.out (rule_at HR.out).2.1 ?_ | refine wl_loadCw rfl _ rfl w.heap.size 0 rfl _ _ _ V M hVl hMl C1.out (own_cells _ _) ?_)) | (go_at_call 59; refine hme.mono ?_; rintro e w2 ⟨rfl, hb2⟩; refine of_stopT ?_))
      unfold StopT
      have BR2 : Hid (Below wr.heap.size wr w2) := below_stepR B1.out B1.out.size hb2
      clear hb2 hme
      have BW2 : Hid (Below w.heap.size w w2) := below_stepR HB.out HB.out.size BR2.out
      have C2 : Hid (w2.heap[w.heap.size]? = some (.cells (cv V M) 42 (0, 0))) := (BR2.out.block _ (Array.getElem?_eq_some_iff.1 HZ.out).1).trans HZ.out
      rcases Bool.eq_false_or_eq_true (meets r.cube.1 r.cube.2 V M) with hm | hm
      · have HMR : Hid (mR V M r = true) := hm
        rw [meetR_yes _ _ _ _ hm]
        have hok := meet_ok r.cube.1 r.cube.2 V M r.order r.action
        have HFR : Hid (fR V M r = (meetV r.cube.1 r.cube.2 V M == V && meetM r.cube.2 M == M)) := rfl
        obtain ⟨V2, hV2⟩ : ∃ V2, V2 = meetV r.cube.1 r.cube.2 V M := ⟨_, rfl⟩
        obtain ⟨M2, hM2⟩ : ∃ M2, M2 = meetM r.cube.2 M := ⟨_, rfl⟩
        rw [← hV2, ← hM2] at hok HFR
        rw [← hV2, ← hM2]
        have lv : V2.length = 13 := hok.1.1
        have lm : M2.length = 13 := hok.2.1
        clear hV2 hM2 hm hok
        obtain ⟨w3, hw3⟩ : ∃ w3, w3 = w2.alloc (.cells (cv V2 M2) 42) := ⟨_, rfl⟩
        have Y3 : Hid (w3.heap[w2.heap.size]? = some (.cells (cv V2 M2) 42 (0, 0))) := by show _ = _; rw [hw3]; exact heap_new _ _ _ rfl
        have C3 : Hid (w3.heap[w.heap.size]? = some (.cells (cv V M) 42 (0, 0))) := by show _ = _; rw [hw3]; exact heap_past _ _ _ _ C2.out
        have B3 : Hid (Below w.heap.size w w3) := by show Below _ _ _; rw [hw3]; exact BW2.out.alloc BW2.out.size _
        go_wp2_with (first | ((with_reducible refine wl_gSC12 _ _ rfl ?_); refine wl_storeC rfl _ _ rfl w2.heap.size V2 M2 rfl rfl _ (heap_new _ _ _ rfl) rfl lv lm _ (setRow_new _ _ _ _ _ rfl) ?_; refine of_stopT ?_))
        unfold StopT
        rw [← hw3]
        clear hw3
        have EQ : ∀ W, (Op.equalIn 10000 42 (.agg (cv V2 M2)) (.agg (cv V M))).run Try.prog W = .ok (V2 == V && M2 == M) W := fun W => eqC _ _ _ _ lv lm hVl hMl W
        have G := egC
        obtain ⟨bq, hbq⟩ : ∃ bq, bq = (V2 == V && M2 == M) := ⟨_, rfl⟩
        rw [← hbq] at EQ HFR
        clear hbq
        rcases Bool.eq_false_or_eq_true bq with hb | hb
        · subst hb
          have EN : Hid (needF (mR V M) (fR V M) l = m + 1) := by show _ = _; rw [NS.out k r HX.out HP.out HMR.out HFR.out, HC.out]
          go_wp2_with (first | ((with_reducible refine wl_gC12 _ rfl ?_); (first | refine wl_loadCw rfl _ rfl w2.heap.size 0 rfl _ _ _ V2 M2 lv lm Y3.out (own_cells _ _) ?_ | refine wl_loadCw rfl _ rfl w.heap.size 0 rfl _ _ _ V M hVl hMl C3.out (own_cells _ _) ?_)))
          go_ret
          exact ⟨by rw [EN.out]; first | rfl | simp, B3.out⟩
        · subst hb
          have HC2 : Hid (m + 1 = (l.take (k + 1)).countP (mR V M)) := by show _ = _; rw [CT.out, HMR.out]; rfl
          have HP2 : Hid (∀ j x, j < k + 1 → l[j]? = some x → mR V M x = true → fR V M x = false) := by
            intro j x hj hx hmx
            by_cases e : j = k
            · subst e; rw [HX.out] at hx; cases hx; exact HFR.out
            · exact HP.out j x (by omega) hx hmx
          go_wp2_with (first | ((with_reducible refine wl_gC12 _ rfl ?_); (first | refine wl_loadCw rfl _ rfl w2.heap.size 0 rfl _ _ _ V2 M2 lv lm Y3.out (own_cells _ _) ?_ | refine wl_loadCw rfl _ rfl w.heap.size 0 rfl _ _ _ V M hVl hMl C3.out (own_cells _ _) ?_)))
          go_roundw
          case rel => exact ⟨k + 1, m + 1, by omega, by go_num, by go_num, by omega, HC2, HP2, C3, B3⟩
          case measure => simp [intOf]; omega
      · have HMR : Hid (mR V M r = false) := hm
        rw [meetR_no _ _ _ _ hm]
        clear hm
        have HC2 : Hid (m = (l.take (k + 1)).countP (mR V M)) := by show _ = _; rw [CT.out, HMR.out]; rfl
        have HP2 : Hid (∀ j x, j < k + 1 → l[j]? = some x → mR V M x = true → fR V M x = false) := by
          intro j x hj hx hmx
          by_cases e : j = k
          · subst e; rw [HX.out] at hx; cases hx; rw [HMR.out] at hmx; cases hmx
          · exact HP.out j x (by omega) hx hmx
        go_wp2_with (first | ((with_reducible refine wl_gSC12 _ _ rfl ?_); refine wl_storeC rfl _ _ rfl w2.heap.size Z Z rfl rfl _ (heap_new _ _ _ rfl) rfl Z_byt.1 Z_byt.1 _ (setRow_new _ _ _ _ _ rfl) ?_))
        go_roundw
        case rel => exact ⟨k + 1, m, by omega, by go_num, rfl, by omega, HC2, HP2, heap_past _ _ _ _ C2.out, BW2.out.alloc BW2.out.size _⟩
        case measure => simp [intOf]; omega
    · have hlt' : ¬ (k : Int) < (n : Int) := by omega
      have EN : Hid (needF (mR V M) (fR V M) l = m) := by
        show _ = _
        rw [NA.out (fun j x hj => HP.out j x (by omega)), HC.out, List.take_of_length_le (by have := HN.out; omega)]
      go_wp2_with fail
      go_ret
      exact ⟨by rw [EN.out]; rfl, HB.out⟩
end Go.Proofs.Ytpbinkmeldkehaa
namespace Go.Proofs.Ytpbinkmeldkehaa
open Go Go.Lib Go.RowKit Ieee
set_option maxRecDepth 20000

/-! The cost of a bit. -/
theorem read_inf : double.read double.infRung = .infinity false := by rw [d_inf]; decide
theorem write_inf : double.write (.infinity false) = double.infRung := by rw [d_inf]; decide
theorem add_inf (x : Nat) (hx : x < double.infRung) : double.add x double.infRung = some double.infRung := by
  obtain ⟨m, i, e1, _⟩ := read_rung double x hx
  unfold Format.add
  rw [e1, read_inf]
  show (some (Datum.infinity false)).map double.write = _
  rw [Option.map_some, write_inf]
/-- A sum whose second part may be infinite. -/
def sumR (x y : Nat) : Nat := if y < double.infRung then addR x y else double.infRung
theorem sumR_le (x y : Nat) : sumR x y ≤ double.infRung := by
  unfold sumR
  split
  · exact addR_le _ _
  · exact Nat.le_refl _
theorem sumF (P : Program) (x y : Nat) (hx : x < double.infRung) (hy : y ≤ double.infRung) (t : TypeId) (W : World) : (binOp .add t (.float .f64 x) (.float .f64 y)).run P W = .ok (.float .f64 (sumR x y)) W := by
  unfold sumR
  by_cases h : y < double.infRung
  · rw [if_pos h]; exact addF P x y hx h t W
  · rw [if_neg h]
    have e : y = double.infRung := by omega
    subst e
    exact run_float_arith W .add t .f64 x _ _ (add_inf x hx)
def costC (g s b : Nat) : Nat := sumR (intF g) (mulR (cleanT b) (intF s))
theorem costC_wd (g s b : Nat) : Wd (costC g s b) := wd_rung (sumR_le _ _)
theorem costC_any (g s b : Nat) (hg : g ≤ 1000000) (hs : s ≤ 1000000) (hb : Wd b) (w : World) : Calls Try.prog 62 #[.int .i64 (g : Int), .int .i64 (s : Int), .float .f64 b] w fun e w' => e = .returned (.float .f64 (costC g s b)) ∧ w' = w := by
  have HC : Hid (∀ x W, Wd x → Calls Try.prog 77 #[.float .f64 x] W fun e w' => e = .returned (.float .f64 (cleanT x)) ∧ w' = W) := fun x W h => clean_any x h W
  have HX : Hid (Wd b) := hb
  have h1 := foi (s : Int) (by omega)
  have h2 := foi (g : Int) (by omega)
  rw [Int.toNat_natCast] at h1 h2
  have lg : intF g < double.infRung := intF_lt _ (by omega)
  have ls : intF s < double.infRung := intF_lt _ (by omega)
  have h3 := mulF Try.prog (cleanT b) (intF s) (cleanT_lt b) ls
  have h4 := sumF Try.prog (intF g) (mulR (cleanT b) (intF s)) lg (mulR_le _ _)
  have HV : Hid (costC g s b = sumR (intF g) (mulR (cleanT b) (intF s))) := rfl
  generalize costC g s b = R at HV ⊢
  generalize sumR (intF g) (mulR (cleanT b) (intF s)) = T at h4 HV
  generalize mulR (cleanT b) (intF s) = D at h3 h4
  generalize intF g = G at h2 h4
  generalize intF s = S at h1 h3
  clear hg hs hb lg ls
  go_enter Try.func62, Try.ntmps62
  go_wp2_with (go_at_call 77; refine (HC.out _ _ HX.out).mono ?_; rintro e w' ⟨rfl, rfl⟩)
  go_ret
  exact ⟨by rw [HV.out]; rfl, rfl⟩
end Go.Proofs.Ytpbinkmeldkehaa
namespace Go.Proofs.Ytpbinkmeldkehaa
open Go Go.Lib Go.RowKit Ieee
set_option maxRecDepth 20000

/-! The best bit: its mathematics, and a row of two cubes. -/
def cntH (V M : List Int) (l : List RuleM) (i : Nat) (b : Bool) : Nat := needF (mR (fixV V M i b) (fixM M i)) (fR (fixV V M i b) (fixM M i)) l
/-- A bit's cost, if it may be cut by. -/
def candO (V M : List Int) (l : List RuleM) (b : Nat) (i : Nat) : Option Nat :=
  if bt M i then none else
  if cntH V M l i false = l.length ∨ cntH V M l i true = l.length then none else
  some (costC (max (cntH V M l i false) (cntH V M l i true)) (cntH V M l i false + cntH V M l i true) b)
def stepO (s : Option (Nat × Nat)) (i : Nat) : Option Nat → Option (Nat × Nat)
  | none => s
  | some x => match s with
    | none => some (i, x)
    | some (j, y) => if placeT x < placeT y then some (i, x) else some (j, y)
def bestO (V M : List Int) (l : List RuleM) (b : Nat) : Nat → Option (Nat × Nat)
  | 0 => none
  | k + 1 => stepO (bestO V M l b k) k (candO V M l b k)
def bI (s : Option (Nat × Nat)) : Nat := match s with | none => 0 | some (i, _) => i
def bX (s : Option (Nat × Nat)) : Nat := match s with | none => 0 | some (_, x) => x
theorem cand_wd {V M : List Int} {l : List RuleM} {b i x : Nat} (h : candO V M l b i = some x) : Wd x := by
  unfold candO at h
  split at h
  · cases h
  · split at h
    · cases h
    · cases h; exact costC_wd _ _ _
theorem best_wd (V M : List Int) (l : List RuleM) (b : Nat) : ∀ k, Wd (bX (bestO V M l b k))
  | 0 => by show Wd 0; unfold Wd; decide
  | k + 1 => by
    have ih := best_wd V M l b k
    unfold bestO
    cases hc : candO V M l b k with
    | none => exact ih
    | some x =>
      have hx := cand_wd hc
      cases hs : bestO V M l b k with
      | none => exact hx
      | some p =>
        rw [hs] at ih
        obtain ⟨j, y⟩ := p
        unfold stepO
        dsimp only
        split
        · exact hx
        · exact ih
def pairC (V0 M0 V1 M1 : List Int) : Array Value := cv V0 M0 ++ cv V1 M1
set_option maxRecDepth 100000 in
theorem build_pair (V0 M0 V1 M1 : List Int) (h0 : V0.length = 13) (h1 : M0.length = 13) (h2 : V1.length = 13) (h3 : M1.length = 13) (W : World) : (Instr.build 98 #[(0, .agg (cv V0 M0)), (1, .agg (cv V1 M1))]).run Try.prog W = .ok (.agg (pairC V0 M0 V1 M1)) W := by
  obtain ⟨a0, a1, a2, a3, a4, a5, a6, a7, a8, a9, a10, a11, a12, rfl⟩ := list13 h0
  obtain ⟨b0, b1, b2, b3, b4, b5, b6, b7, b8, b9, b10, b11, b12, rfl⟩ := list13 h1
  obtain ⟨c0, c1, c2, c3, c4, c5, c6, c7, c8, c9, c10, c11, c12, rfl⟩ := list13 h2
  obtain ⟨d0, d1, d2, d3, d4, d5, d6, d7, d8, d9, d10, d11, d12, rfl⟩ := list13 h3
  kernel_rfl
set_option maxRecDepth 100000 in
theorem index_pair0 (V0 M0 V1 M1 : List Int) (h0 : V0.length = 13) (h1 : M0.length = 13) (h2 : V1.length = 13) (h3 : M1.length = 13) (W : World) : (Instr.index 98 (.agg (pairC V0 M0 V1 M1)) (.int .i64 0)).run Try.prog W = .ok (.agg (cv V0 M0)) W := by
  obtain ⟨a0, a1, a2, a3, a4, a5, a6, a7, a8, a9, a10, a11, a12, rfl⟩ := list13 h0
  obtain ⟨b0, b1, b2, b3, b4, b5, b6, b7, b8, b9, b10, b11, b12, rfl⟩ := list13 h1
  obtain ⟨c0, c1, c2, c3, c4, c5, c6, c7, c8, c9, c10, c11, c12, rfl⟩ := list13 h2
  obtain ⟨d0, d1, d2, d3, d4, d5, d6, d7, d8, d9, d10, d11, d12, rfl⟩ := list13 h3
  kernel_rfl
set_option maxRecDepth 100000 in
theorem index_pair1 (V0 M0 V1 M1 : List Int) (h0 : V0.length = 13) (h1 : M0.length = 13) (h2 : V1.length = 13) (h3 : M1.length = 13) (W : World) : (Instr.index 98 (.agg (pairC V0 M0 V1 M1)) (.int .i64 1)).run Try.prog W = .ok (.agg (cv V1 M1)) W := by
  obtain ⟨a0, a1, a2, a3, a4, a5, a6, a7, a8, a9, a10, a11, a12, rfl⟩ := list13 h0
  obtain ⟨b0, b1, b2, b3, b4, b5, b6, b7, b8, b9, b10, b11, b12, rfl⟩ := list13 h1
  obtain ⟨c0, c1, c2, c3, c4, c5, c6, c7, c8, c9, c10, c11, c12, rfl⟩ := list13 h2
  obtain ⟨d0, d1, d2, d3, d4, d5, d6, d7, d8, d9, d10, d11, d12, rfl⟩ := list13 h3
  kernel_rfl
theorem wl_pair {ops : Array Oper} {rest : List Oper} {o : Oper} {a : Act} {w : World} {Q : Exit → Act → World → Prop} (hgd : o.guard = none) (x y : Operand) (ho : o.op = .build 98 #[(0, x), (1, y)]) (V0 M0 V1 M1 : List Int) (h0 : V0.length = 13) (h1 : M0.length = 13) (h2 : V1.length = 13) (h3 : M1.length = 13)
    (hx : a.eval x = .agg (cv V0 M0)) (hy : a.eval y = .agg (cv V1 M1)) (h : wpList Try.prog ops Q rest (a.put o.dst (.agg (pairC V0 M0 V1 M1))) w) : wpList Try.prog ops Q (o :: rest) a w := by
  refine wpList_plain hgd fun _ hK => ?_
  unfold Oper.wp execOp
  simp only [ho, Sem.run_bind, List.map_toArray, List.map_cons, List.map_nil, hx, hy, build_pair V0 M0 V1 M1 h0 h1 h2 h3, Result.andThen_ok, Sem.run_pure]
  exact hK _ _ h
end Go.Proofs.Ytpbinkmeldkehaa
namespace Go.Proofs.Ytpbinkmeldkehaa
open Go Go.Lib Go.RowKit Ieee
set_option maxRecDepth 20000

theorem setRow_two12 (w : World) (old cs : Array Value) (t : TypeId) (o2 : Obj) (g : Nat) (hg : g = w.heap.size) : ((w.alloc (.cells old t)).alloc o2).setRow g cs = (w.alloc (.cells cs t)).alloc o2 := by
  subst hg
  rw [setRow_past _ _ _ _ (by simp), setRow_new _ _ _ _ _ rfl]
theorem bestO_no {V M : List Int} {l : List RuleM} {b k : Nat} (h : candO V M l b k = none) : bestO V M l b (k + 1) = bestO V M l b k := by
  show stepO _ _ _ = _
  rw [h]; rfl
theorem bestO_first {V M : List Int} {l : List RuleM} {b k x : Nat} (h : candO V M l b k = some x) (hs : (bestO V M l b k).isSome = false) : bestO V M l b (k + 1) = some (k, x) := by
  show stepO _ _ _ = _
  rw [h]
  cases e : bestO V M l b k with
  | none => rfl
  | some p => rw [e] at hs; cases hs
theorem bestO_less {V M : List Int} {l : List RuleM} {b k x : Nat} (h : candO V M l b k = some x) (hx : placeT x < placeT (bX (bestO V M l b k))) : bestO V M l b (k + 1) = some (k, x) := by
  show stepO _ _ _ = _
  rw [h]
  cases e : bestO V M l b k with
  | none => rfl
  | some p => rw [e] at hx; obtain ⟨j, y⟩ := p; exact if_pos hx
theorem bestO_stay {V M : List Int} {l : List RuleM} {b k x : Nat} (h : candO V M l b k = some x) (hs : (bestO V M l b k).isSome = true) (hx : ¬ placeT x < placeT (bX (bestO V M l b k))) : bestO V M l b (k + 1) = bestO V M l b k := by
  show stepO _ _ _ = _
  rw [h]
  cases e : bestO V M l b k with
  | none => rw [e] at hs; cases hs
  | some p => rw [e] at hx; obtain ⟨j, y⟩ := p; exact if_neg hx
/-- What the loop over bits has come to. -/
def At12 (V M : List Int) (l : List RuleM) (b k bi bx : Nat) (f : Bool) : Prop := bi = bI (bestO V M l b k) ∧ bx = bX (bestO V M l b k) ∧ f = (bestO V M l b k).isSome
theorem at_new {V M : List Int} {l : List RuleM} {b k x : Nat} (h : bestO V M l b (k + 1) = some (k, x)) : At12 V M l b (k + 1) k x true := by
  unfold At12
  rw [h]
  exact ⟨rfl, rfl, rfl⟩
theorem at_stay {V M : List Int} {l : List RuleM} {b k bi bx : Nat} {fb : Bool} (h : bestO V M l b (k + 1) = bestO V M l b k) (ha : At12 V M l b k bi bx fb) : At12 V M l b (k + 1) bi bx fb := by
  unfold At12
  rw [h]
  exact ha
set_option maxHeartbeats 16000000 in
theorem bst_any (l : List RuleM) (hl0 : ∀ r ∈ l, okR8 r) (hn1 : l.length ≤ 100000) (vl : Value) (V M : List Int) (hV : Byt V) (hM : Byt M) (b : Nat) (hwb : Wd b) (w : World) (hl : RulesAt w vl l) :
    Calls Try.prog 46 #[vl, .agg (cv V M), .float .f64 b] w fun e w' => e = .returned (.tuple #[.int .i64 (bI (bestO V M l b 104) : Nat), .bool (bestO V M l b 104).isSome]) ∧ Below w.heap.size w w' := by
  have SF : Hid (∀ (k : Nat) W, k < 104 → bt M k = false → Calls Try.prog 47 #[.agg (cv V M), .int .i64 (k : Int)] W fun e w' => e = .returned (.tuple #[.agg (cv (fixV V M k false) (fixM M k)), .agg (cv (fixV V M k true) (fixM M k)), .int .i64 0]) ∧ Below W.heap.size W w') := fun k W h1 h2 => split_free V M hV hM k h1 h2 W
  have SX : Hid (∀ (k : Nat) W, k < 104 → bt M k = true → Calls Try.prog 47 #[.agg (cv V M), .int .i64 (k : Int)] W fun e w' => e = .returned (.tuple #[.agg (cv Z Z), .agg (cv Z Z), .int .i64 3]) ∧ Below W.heap.size W w') := fun k W h1 h2 => split_fixed V M hV.1 hM k h1 h2 W
  have CN : Hid (∀ (A B : List Int) W, Byt A → Byt B → RulesAt W vl l → Calls Try.prog 61 #[vl, .agg (cv A B)] W fun e w' => e = .returned (.int .i64 (needF (mR A B) (fR A B) l : Nat)) ∧ Below W.heap.size W w') := fun A B W h1 h2 h3 => cnt_any l hl0 hn1 vl A B h1 h2 W h3
  have CO : Hid (∀ (g s : Nat) W, g ≤ 1000000 → s ≤ 1000000 → Calls Try.prog 62 #[.int .i64 (g : Int), .int .i64 (s : Int), .float .f64 b] W fun e w' => e = .returned (.float .f64 (costC g s b)) ∧ w' = W) := fun g s W h1 h2 => costC_any g s b h1 h2 hwb W
  have LS : Hid (∀ (x y : Nat) W, Wd x → Wd y → Calls Try.prog 58 #[.float .f64 x, .float .f64 y] W fun e w' => e = .returned (.bool (decide (placeT x < placeT y))) ∧ w' = W) := fun x y W h1 h2 => less_any x y h1 h2 W
  have hVl := hV.1
  have hMl := hM.1
  have HFV : Hid (∀ k c, Byt (fixV V M k c)) := fun k c => setb_byt _ k c
  have HFM : Hid (∀ k, Byt (fixM M k)) := fun k => setb_byt _ k true
  obtain ⟨o, cap, rfl, hc1, hc2⟩ := GSl.slice hl
  obtain ⟨n, hn0⟩ : ∃ n, n = l.length := ⟨_, rfl⟩
  have HN : Hid (n = l.length) := hn0
  rw [← hn0] at hl hc1 hn1 CN ⊢
  have HL : Hid (RulesAt w (.slice o n cap) l) := hl
  unfold maxLen at hc2
  obtain ⟨R, hR⟩ : ∃ R, R = bestO V M l b 104 := ⟨_, rfl⟩
  have HRR : Hid (R = bestO V M l b 104) := hR
  rw [← hR]
  clear hl hn0 hl0 hV hM hR hwb
  go_enter Try.func46, Try.ntmps46
  go_wp2_with fail
  go_step3
  go_wp2_with fail
  go_step3
  go_wp2_with fail
  go_loopw [8, 9, 10, 21] (fun v f x i wr => ∃ (k bi bx : Nat) (fb : Bool), k ≤ 104 ∧ i = .int .i64 (k : Int) ∧ v = .int .i64 (bi : Int) ∧ f = .bool fb ∧ x = .float .f64 bx ∧ Hid (At12 V M l b k bi bx fb) ∧ Hid (wr.heap[w.heap.size]? = some (.cells (cv V M) 42 (0, 0))) ∧ Hid (Below w.heap.size w wr)) (fun _ _ _ i _ => 104 - (intOf i).toNat)
  case atStart => exact ⟨0, 0, 0, false, Nat.zero_le _, rfl, rfl, rfl, rfl, ⟨rfl, rfl, rfl⟩, heap_new _ _ _ rfl, (Below.refl _ _).alloc (Nat.le_refl _) _⟩
  case round =>
    obtain ⟨k, bi, bx, fb, hk, rfl, rfl, rfl, rfl, HA, HZ, HB⟩ := hrel
    by_cases hlt : k < 104
    · have hlt' : (k : Int) < 104 := by omega
      rcases Bool.eq_false_or_eq_true (bt M k) with hbt | hbt
      · have HNO : Hid (candO V M l b k = none) := by show _ = _; unfold candO; rw [if_pos hbt]
        have sx := SX.out k wr hlt hbt
        clear hbt
        go_wp2_with (first | ((with_reducible refine wl_gC12 _ rfl ?_); refine wl_loadCw rfl _ rfl w.heap.size 0 rfl _ _ _ V M hVl hMl HZ.out (own_cells _ _) ?_) | (go_at_call 47; refine sx.mono ?_; rintro e w1 ⟨rfl, hb1⟩; refine of_stopT ?_))
        unfold StopT
        have BW1 : Hid (Below w.heap.size w w1) := below_stepR HB.out HB.out.size hb1
        have C1 : Hid (w1.heap[w.heap.size]? = some (.cells (cv V M) 42 (0, 0))) := (hb1.block _ (Array.getElem?_eq_some_iff.1 HZ.out).1).trans HZ.out
        clear hb1 sx
        go_wp2_with (first | ((with_reducible refine wl_gSC12 _ _ rfl ?_); (first | refine wl_storeC rfl _ _ rfl w1.heap.size Z Z rfl rfl _ (heap_past _ _ _ _ (heap_new _ _ _ rfl)) rfl Z_byt.1 Z_byt.1 _ (setRow_two12 _ _ _ _ _ _ rfl) ?_ | refine wl_storeC rfl _ _ rfl (w1.heap.size + 1) Z Z rfl rfl _ (heap_new _ _ _ (by simp)) rfl Z_byt.1 Z_byt.1 _ (setRow_new _ _ _ _ _ (by simp)) ?_)))
        go_roundw
        case rel => exact ⟨k + 1, bi, bx, fb, by omega, by go_num, rfl, rfl, rfl, at_stay (bestO_no HNO.out) HA.out, heap_past _ _ _ _ (heap_past _ _ _ _ C1.out), (BW1.out.alloc BW1.out.size _).alloc (by simp; have := BW1.out.size; omega) _⟩
        case measure => simp [intOf]; omega
      · have sf := SF.out k wr hlt hbt
        have HBT : Hid (bt M k = false) := hbt
        clear hbt
        have HA0 : Hid (Byt (fixV V M k false)) := HFV.out k false
        have HA1 : Hid (Byt (fixV V M k true)) := HFV.out k true
        have HAM : Hid (Byt (fixM M k)) := HFM.out k
        have HC0 : Hid (needF (mR (fixV V M k false) (fixM M k)) (fR (fixV V M k false) (fixM M k)) l = cntH V M l k false) := rfl
        have HC1 : Hid (needF (mR (fixV V M k true) (fixM M k)) (fR (fixV V M k true) (fixM M k)) l = cntH V M l k true) := rfl
        have hn0 : cntH V M l k false ≤ n := by rw [HN.out]; exact need_le _ _ _
        have hn2 : cntH V M l k true ≤ n := by rw [HN.out]; exact need_le _ _ _
        have HNO : Hid (cntH V M l k false = n ∨ cntH V M l k true = n → candO V M l b k = none) := fun h => by rw [HN.out] at h; unfold candO; rw [HBT.out, if_neg (by simp), if_pos h]
        have HYE : Hid (cntH V M l k false ≠ n → cntH V M l k true ≠ n → candO V M l b k = some (costC (max (cntH V M l k false) (cntH V M l k true)) (cntH V M l k false + cntH V M l k true) b)) := fun h1 h2 => by rw [HN.out] at h1 h2; unfold candO; rw [HBT.out, if_neg (by simp), if_neg (fun h => h.elim h1 h2)]
        generalize cntH V M l k false = c0 at HC0 hn0 HNO HYE
        generalize cntH V M l k true = c1 at HC1 hn2 HNO HYE
        generalize fixV V M k false = A0 at sf HA0 HC0
        generalize fixV V M k true = A1 at sf HA1 HC1
        generalize fixM M k = AM at sf HAM HC0 HC1
        have l0 : A0.length = 13 := HA0.out.1
        have l1 : A1.length = 13 := HA1.out.1
        have lm : AM.length = 13 := HAM.out.1
        go_wp2_with (first | ((with_reducible refine wl_gC12 _ rfl ?_); refine wl_loadCw rfl _ rfl w.heap.size 0 rfl _ _ _ V M hVl hMl HZ.out (own_cells _ _) ?_) | (go_at_call 47; refine sf.mono ?_; rintro e w1 ⟨rfl, hb1⟩; refine of_stopT ?_))
        unfold StopT
        have BW1 : Hid (Below w.heap.size w w1) := below_stepR HB.out HB.out.size hb1
        have C1 : Hid (w1.heap[w.heap.size]? = some (.cells (cv V M) 42 (0, 0))) := (hb1.block _ (Array.getElem?_eq_some_iff.1 HZ.out).1).trans HZ.out
        clear hb1 sf
        obtain ⟨w3, hw3⟩ : ∃ w3, w3 = (w1.alloc (.cells (cv A0 AM) 42)).alloc (.cells (cv A1 AM) 42) := ⟨_, rfl⟩
        have Y0 : Hid (w3.heap[w1.heap.size]? = some (.cells (cv A0 AM) 42 (0, 0))) := by show _ = _; rw [hw3]; exact heap_past _ _ _ _ (heap_new _ _ _ rfl)
        have Y1 : Hid (w3.heap[w1.heap.size + 1]? = some (.cells (cv A1 AM) 42 (0, 0))) := by show _ = _; rw [hw3]; exact heap_new _ _ _ (by simp)
        have C3 : Hid (w3.heap[w.heap.size]? = some (.cells (cv V M) 42 (0, 0))) := by show _ = _; rw [hw3]; exact heap_past _ _ _ _ (heap_past _ _ _ _ C1.out)
        have B3 : Hid (Below w.heap.size w w3) := by show Below _ _ _; rw [hw3]; exact (BW1.out.alloc BW1.out.size _).alloc (by simp; have := BW1.out.size; omega) _
        go_wp2_with (first | ((with_reducible refine wl_gSC12 _ _ rfl ?_); (first | refine wl_storeC rfl _ _ rfl w1.heap.size A0 AM rfl rfl _ (heap_past _ _ _ _ (heap_new _ _ _ rfl)) rfl l0 lm _ (setRow_two12 _ _ _ _ _ _ rfl) ?_ | (refine wl_storeC rfl _ _ rfl (w1.heap.size + 1) A1 AM rfl rfl _ (heap_new _ _ _ (by simp)) rfl l1 lm _ (setRow_new _ _ _ _ _ (by simp)) ?_; refine of_stopT ?_))))
        unfold StopT
        rw [← hw3]
        clear hw3
        go_wp2_with (first | ((with_reducible refine wl_gC12 _ rfl ?_); (first | refine wl_loadCw rfl _ rfl w1.heap.size 0 rfl _ _ _ A0 AM l0 lm Y0.out (own_cells _ _) ?_ | refine wl_loadCw rfl _ rfl (w1.heap.size + 1) 0 rfl _ _ _ A1 AM l1 lm Y1.out (own_cells _ _) ?_)) | (refine wl_pair rfl _ _ rfl A0 AM A1 AM l0 lm l1 lm rfl rfl ?_))
        clear Y0 Y1
        have IX0 : ∀ W, (Instr.index 98 (.agg (pairC A0 AM A1 AM)) (.int .i64 0)).run Try.prog W = .ok (.agg (cv A0 AM)) W := fun W => index_pair0 A0 AM A1 AM l0 lm l1 lm W
        have IX1 : ∀ W, (Instr.index 98 (.agg (pairC A0 AM A1 AM)) (.int .i64 1)).run Try.prog W = .ok (.agg (cv A1 AM)) W := fun W => index_pair1 A0 AM A1 AM l0 lm l1 lm W
        generalize pairC A0 AM A1 AM = PP at IX0 IX1
        generalize w1.heap.size = q1
        go_loopw [15, 16, 36] (fun g s i wx => ∃ (j gg ss : Int), i = .int .i64 j ∧ g = .int .i64 gg ∧ s = .int .i64 ss ∧ Hid ((0 = j ∧ 0 = gg ∧ 0 = ss) ∨ (1 = j ∧ (c0 : Int) = gg ∧ (c0 : Int) = ss ∧ c0 ≠ n) ∨ (2 = j ∧ ((max c0 c1 : Nat) : Int) = gg ∧ ((c0 + c1 : Nat) : Int) = ss ∧ c0 ≠ n ∧ c1 ≠ n)) ∧ Hid (wx.heap[w.heap.size]? = some (.cells (cv V M) 42 (0, 0))) ∧ Hid (Below w.heap.size w wx)) (fun _ _ i _ => 2 - (intOf i).toNat)
        case atStart => exact ⟨0, 0, 0, rfl, rfl, rfl, Or.inl ⟨rfl, rfl, rfl⟩, C3, B3⟩
        case round =>
          clear C3 B3
          obtain ⟨j, gg, ss, rfl, rfl, rfl, HJ, C3, B3⟩ := hrel
          rcases HJ.out with ⟨rfl, rfl, rfl⟩ | ⟨rfl, rfl, rfl, h0⟩ | ⟨rfl, rfl, rfl, h0, h1⟩
          · clear HJ
            have hj2 : (0 : Int) < 2 := by decide
            obtain ⟨w4, hw4⟩ : ∃ w4, w4 = wr.alloc (.cells (cv A0 AM) 42) := ⟨_, rfl⟩
            have X4 : Hid (w4.heap[wr.heap.size]? = some (.cells (cv A0 AM) 42 (0, 0))) := by show _ = _; rw [hw4]; exact heap_new _ _ _ rfl
            have C4 : Hid (w4.heap[w.heap.size]? = some (.cells (cv V M) 42 (0, 0))) := by show _ = _; rw [hw4]; exact heap_past _ _ _ _ C3.out
            have B4 : Hid (Below w.heap.size w w4) := by show Below _ _ _; rw [hw4]; exact B3.out.alloc B3.out.size _
            have cn := CN.out A0 AM w4 HA0.out HAM.out (GSl.below HL.out B4.out)
            rw [HC0.out] at cn
            go_wp2_with (first | ((with_reducible refine wl_gSC12 _ _ rfl ?_); (refine wl_storeC rfl _ _ rfl wr.heap.size A0 AM rfl rfl _ (heap_new _ _ _ rfl) rfl l0 lm _ (setRow_new _ _ _ _ _ rfl) ?_; refine of_stopT ?_)))
            unfold StopT
            rw [← hw4]
            clear hw4
            generalize wr.heap.size = q at X4
            go_wp2_with (first | ((with_reducible refine wl_gC12 _ rfl ?_); (refine wl_loadCw rfl _ rfl q 0 rfl _ _ _ A0 AM l0 lm X4.out (own_cells _ _) ?_)) | (go_at_call 61; refine cn.mono ?_; rintro e w5 ⟨rfl, hb5⟩; refine of_stopT ?_))
            unfold StopT
            have C5 : Hid (w5.heap[w.heap.size]? = some (.cells (cv V M) 42 (0, 0))) := (hb5.block _ (Array.getElem?_eq_some_iff.1 C4.out).1).trans C4.out
            have B5 : Hid (Below w.heap.size w w5) := below_stepR B4.out B4.out.size hb5
            clear hb5 cn X4 C4 B4 C3 B3
            by_cases hq : c0 = n
            · have HE : Hid (bestO V M l b (k + 1) = bestO V M l b k) := bestO_no (HNO.out (Or.inl hq))
              have hq1 : ((c0 : Int) == (n : Int)) = true := by simp; omega
              have hq2 : decide ((c0 : Int) = (n : Int)) = true := by simp; omega
              clear hq
              go_wp2_with fail
              go_roundw
              case rel => exact ⟨k + 1, bi, bx, fb, by omega, by go_num, rfl, rfl, rfl, at_stay HE.out HA.out, C5, B5⟩
              case measure => simp [intOf]; omega
            · have HQ : Hid (c0 ≠ n) := hq
              have hq1 : ((c0 : Int) == (n : Int)) = false := by simp; omega
              have hq2 : decide ((c0 : Int) = (n : Int)) = false := by simp; omega
              clear hq
              go_wp2_with (refine wl_maxI rfl _ _ rfl (0 : Int) (c0 : Int) (c0 : Int) rfl rfl (by omega) ?_)
              go_roundw
              case rel => exact ⟨1, c0, c0, by go_num, rfl, by go_num, Or.inr (Or.inl ⟨rfl, rfl, rfl, HQ.out⟩), C5, B5⟩
              case measure => simp [intOf]
          · clear HJ
            have H0 : Hid (c0 ≠ n) := h0
            clear h0
            have hj2 : (1 : Int) < 2 := by decide
            obtain ⟨w4, hw4⟩ : ∃ w4, w4 = wr.alloc (.cells (cv A1 AM) 42) := ⟨_, rfl⟩
            have X4 : Hid (w4.heap[wr.heap.size]? = some (.cells (cv A1 AM) 42 (0, 0))) := by show _ = _; rw [hw4]; exact heap_new _ _ _ rfl
            have C4 : Hid (w4.heap[w.heap.size]? = some (.cells (cv V M) 42 (0, 0))) := by show _ = _; rw [hw4]; exact heap_past _ _ _ _ C3.out
            have B4 : Hid (Below w.heap.size w w4) := by show Below _ _ _; rw [hw4]; exact B3.out.alloc B3.out.size _
            have cn := CN.out A1 AM w4 HA1.out HAM.out (GSl.below HL.out B4.out)
            rw [HC1.out] at cn
            go_wp2_with (first | ((with_reducible refine wl_gSC12 _ _ rfl ?_); (refine wl_storeC rfl _ _ rfl wr.heap.size A1 AM rfl rfl _ (heap_new _ _ _ rfl) rfl l1 lm _ (setRow_new _ _ _ _ _ rfl) ?_; refine of_stopT ?_)))
            unfold StopT
            rw [← hw4]
            clear hw4
            generalize wr.heap.size = q at X4
            go_wp2_with (first | ((with_reducible refine wl_gC12 _ rfl ?_); (refine wl_loadCw rfl _ rfl q 0 rfl _ _ _ A1 AM l1 lm X4.out (own_cells _ _) ?_)) | (go_at_call 61; refine cn.mono ?_; rintro e w5 ⟨rfl, hb5⟩; refine of_stopT ?_))
            unfold StopT
            have C5 : Hid (w5.heap[w.heap.size]? = some (.cells (cv V M) 42 (0, 0))) := (hb5.block _ (Array.getElem?_eq_some_iff.1 C4.out).1).trans C4.out
            have B5 : Hid (Below w.heap.size w w5) := below_stepR B4.out B4.out.size hb5
            clear hb5 cn X4 C4 B4 C3 B3
            by_cases hq : c1 = n
            · have HE : Hid (bestO V M l b (k + 1) = bestO V M l b k) := bestO_no (HNO.out (Or.inr hq))
              have hq1 : ((c1 : Int) == (n : Int)) = true := by simp; omega
              have hq2 : decide ((c1 : Int) = (n : Int)) = true := by simp; omega
              clear hq
              go_wp2_with fail
              go_roundw
              case rel => exact ⟨k + 1, bi, bx, fb, by omega, by go_num, rfl, rfl, rfl, at_stay HE.out HA.out, C5, B5⟩
              case measure => simp [intOf]; omega
            · have HQ : Hid (c1 ≠ n) := hq
              have hq1 : ((c1 : Int) == (n : Int)) = false := by simp; omega
              have hq2 : decide ((c1 : Int) = (n : Int)) = false := by simp; omega
              clear hq
              go_wp2_with (refine wl_maxI rfl _ _ rfl (c0 : Int) (c1 : Int) ((max c0 c1 : Nat) : Int) rfl rfl (by omega) ?_)
              go_roundw
              case rel => exact ⟨2, ((max c0 c1 : Nat) : Int), ((c0 + c1 : Nat) : Int), by go_num, rfl, by go_num, Or.inr (Or.inr ⟨rfl, rfl, rfl, H0.out, HQ.out⟩), C5, B5⟩
              case measure => simp [intOf]
          · clear HJ
            have HY : Hid (candO V M l b k = some (costC (max c0 c1) (c0 + c1) b)) := HYE.out h0 h1
            clear h0 h1
            have hg1 : max c0 c1 ≤ 1000000 := by omega
            have hs1 : c0 + c1 ≤ 1000000 := by omega
            generalize max c0 c1 = g1 at HY hg1 ⊢
            generalize c0 + c1 = s1 at HY hs1 ⊢
            have co := CO.out g1 s1 wr hg1 hs1
            have HXW : Hid (Wd (costC g1 s1 b)) := costC_wd _ _ _
            have HBW : Hid (Wd bx) := by show Wd bx; rw [HA.out.2.1]; exact best_wd _ _ _ _ _
            generalize costC g1 s1 b = x at HY co HXW
            have ls := LS.out x bx wr HXW.out HBW.out
            cases fb with
            | false =>
              have HE : Hid (bestO V M l b (k + 1) = some (k, x)) := bestO_first HY.out HA.out.2.2.symm
              go_wp2_with (first | (go_at_call 62; refine co.mono ?_; rintro e w' ⟨rfl, rfl⟩))
              go_roundw
              case rel => exact ⟨k + 1, k, x, true, by omega, by go_num, rfl, rfl, rfl, at_new HE.out, C3, B3⟩
              case measure => simp [intOf]; omega
            | true =>
              by_cases hp : placeT x < placeT bx
              · have HE : Hid (bestO V M l b (k + 1) = some (k, x)) := bestO_less HY.out (by rw [← HA.out.2.1]; exact hp)
                rw [decide_eq_true hp] at ls
                clear hp
                go_wp2_with (first | (go_at_call 62; refine co.mono ?_; rintro e w' ⟨rfl, rfl⟩) | (go_at_call 58; refine ls.mono ?_; rintro e w' ⟨rfl, rfl⟩))
                go_roundw
                case rel => exact ⟨k + 1, k, x, true, by omega, by go_num, rfl, rfl, rfl, at_new HE.out, C3, B3⟩
                case measure => simp [intOf]; omega
              · have HE : Hid (bestO V M l b (k + 1) = bestO V M l b k) := bestO_stay HY.out HA.out.2.2.symm (by rw [← HA.out.2.1]; exact hp)
                rw [decide_eq_false hp] at ls
                clear hp
                go_wp2_with (first | (go_at_call 62; refine co.mono ?_; rintro e w' ⟨rfl, rfl⟩) | (go_at_call 58; refine ls.mono ?_; rintro e w' ⟨rfl, rfl⟩))
                go_roundw
                case rel => exact ⟨k + 1, bi, bx, true, by omega, by go_num, rfl, rfl, rfl, at_stay HE.out HA.out, C3, B3⟩
                case measure => simp [intOf]; omega
    · have hlt' : ¬ (k : Int) < 104 := by omega
      have e104 : k = 104 := by omega
      subst e104
      have EB : Hid (bI R = bi) := by show _ = _; rw [HRR.out, HA.out.1]
      have EF : Hid (R.isSome = fb) := by show _ = _; rw [HRR.out, HA.out.2.2]
      clear HRR HA
      go_wp2_with fail
      try simp only [Exit.noGoto_ret]
      go_ret2
      exact ⟨by rw [EB.out, EF.out]; rfl, HB.out⟩
end Go.Proofs.Ytpbinkmeldkehaa
