import Derived.Test.YtbhnjhiecoapbabJ1
import Derived.Test.YtbhnjhiecoapbabJ8
import Derived.Laws.Externs
import Derived.Lib.Hide
import Derived.Test.YtbhnjhiecoapbabJ4
import Derived.Test.YtbhnjhiecoapbabJ5
import Derived.Test.YtbhnjhiecoapbabJ7
import Derived.SizedLaws
import Derived.Test.YtbhnjhiecoapbabJ6
import Derived.WalkMore
namespace Go.Proofs.Ytbhnjhiecoapbab
open Go Go.Lib Go.RowKit Ieee
set_option maxRecDepth 20000

theorem f64d : FloatKind.f64.format = double := rfl
/-- A word's bits. -/
def Wd (x : Nat) : Prop := x < 2 * double.signWeight
theorem wd_iff (x : Nat) : Wd x ↔ x < 18446744073709551616 := by unfold Wd; rw [d_sw]
theorem wd_rung {x : Nat} (h : x ≤ double.infRung) : Wd x := by rw [wd_iff]; rw [d_inf] at h; omega
theorem nan_iff (x : Nat) : isN double x = true ↔ double.infRung < x % double.signWeight := by unfold isN; simp
theorem num_iff (x : Nat) : isN double x = false ↔ x % double.signWeight ≤ double.infRung := by unfold isN; simp
theorem order_gt0 (x : Nat) (hx : Wd x) : (FloatKind.f64.format.order x 0 == some Ordering.gt) = decide (0 < x ∧ x ≤ double.infRung) := by
  rw [f64d]
  have h2 := double.infRung_lt
  cases hn : isN double x with
  | true =>
    rw [order_nan double dE x 0 (.inl hn)]
    have h := (nan_iff x).1 hn
    have : ¬ (0 < x ∧ x ≤ double.infRung) := fun ⟨_, h3⟩ => by rw [Nat.mod_eq_of_lt (by omega)] at h; omega
    rw [decide_eq_false this]; rfl
  | false =>
    have h := (num_iff x).1 hn
    rw [order_word double dE x 0 hx (by rw [d_sw]; decide) hn (rung_num 0 (Nat.zero_le _)).1, (rung_num 0 (Nat.zero_le _)).2, some_gt]
    apply decide_eq_decide.2
    unfold plc
    by_cases hs : double.signWeight ≤ x
    · rw [if_pos hs]; omega
    · rw [if_neg hs]
      rw [Nat.mod_eq_of_lt (by omega)] at h
      omega
theorem order_gtM (x : Nat) (hx : Wd x) : (FloatKind.f64.format.order x 9218868437227405311 == some Ordering.gt) = decide (x = double.infRung) := by
  rw [f64d]
  have h2 := double.infRung_lt
  have hm : (9218868437227405311 : Nat) + 1 = double.infRung := max_inf
  cases hn : isN double x with
  | true =>
    rw [order_nan double dE x _ (.inl hn)]
    have h := (nan_iff x).1 hn
    have : ¬ (x = double.infRung) := fun h3 => by rw [Nat.mod_eq_of_lt (by omega)] at h; omega
    rw [decide_eq_false this]; rfl
  | false =>
    have h := (num_iff x).1 hn
    have hr := rung_num 9218868437227405311 (by omega)
    rw [order_word double dE x _ hx (by rw [d_sw]; decide) hn hr.1, hr.2, some_gt]
    apply decide_eq_decide.2
    unfold plc
    by_cases hs : double.signWeight ≤ x
    · rw [if_pos hs]; omega
    · rw [if_neg hs]
      rw [Nat.mod_eq_of_lt (by omega)] at h
      omega
theorem order_self (x : Nat) (hx : Wd x) : (FloatKind.f64.format.order x x == some Ordering.eq) = !(isN double x) := by
  rw [f64d]
  cases hn : isN double x with
  | true => rw [order_nan double dE x _ (.inl hn)]; rfl
  | false => rw [order_word double dE x x hx hx hn hn, some_eq]; simp
theorem cleanT_none (x : Nat) (h : ¬ (0 < x ∧ x ≤ double.infRung)) : cleanT x = 0 := by
  unfold cleanT
  split
  · rfl
  · omega
theorem clean_any (x : Nat) (hx : Wd x) (w : World) : Calls Try.prog 33 #[.float .f64 x] w fun e w' => e = .returned (.float .f64 (cleanT x)) ∧ w' = w := by
  have h1 := order_gt0 x hx
  have h2 := order_gtM x hx
  have hm : (9218868437227405311 : Nat) + 1 = double.infRung := max_inf
  by_cases c1 : 0 < x ∧ x ≤ double.infRung
  · rw [decide_eq_true c1] at h1
    by_cases c2 : x = double.infRung
    · have HV : Hid (cleanT x = 9218868437227405311) := by show _ = _; rw [cleanT_rung x c1.2]; unfold MAXR; omega
      rw [decide_eq_true c2] at h2
      clear c1 c2 hx hm
      go_enter Try.func33, Try.ntmps33
      go_wp2
      go_ret
      exact ⟨by rw [HV.out]; rfl, rfl⟩
    · have HV : Hid (cleanT x = x) := cleanT_fix x (by omega)
      rw [decide_eq_false c2] at h2
      clear c1 c2 hx hm
      go_enter Try.func33, Try.ntmps33
      go_wp2
      go_ret
      exact ⟨by rw [HV.out]; rfl, rfl⟩
  · have HV : Hid (cleanT x = 0) := cleanT_none x c1
    rw [decide_eq_false c1] at h1
    clear c1 hx hm h2
    go_enter Try.func33, Try.ntmps33
    go_wp2
    go_ret
    exact ⟨by rw [HV.out]; rfl, rfl⟩
theorem isnan_any (x : Nat) (hx : Wd x) (w : World) : Calls Try.prog 34 #[.float .f64 x] w fun e w' => e = .returned (.bool (isN double x)) ∧ w' = w := by
  have h1 := order_self x hx
  clear hx
  generalize isN double x = b at h1 ⊢
  cases b
  · go_enter Try.func34, Try.ntmps34
    go_wp2
    go_ret
    exact ⟨by simpa using h1, rfl⟩
  · go_enter Try.func34, Try.ntmps34
    go_wp2
    go_ret
    exact ⟨by simpa using h1, rfl⟩
theorem order_lss (x y : Nat) (hx : Wd x) (hy : Wd y) : (FloatKind.f64.format.order x y == some Ordering.lt) = (!(isN double x) && !(isN double y) && decide (placeT x < placeT y)) := by
  rw [f64d]
  cases h : isN double x with
  | true => rw [order_nan double dE x y (.inl h)]; rfl
  | false =>
    cases h' : isN double y with
    | true => rw [order_nan double dE x y (.inr h')]; rfl
    | false => rw [order_place x y hx hy h h', some_lt]; simp
/-- Less. -/
theorem less_any (x y : Nat) (hx : Wd x) (hy : Wd y) (w : World) : Calls Try.prog 31 #[.float .f64 x, .float .f64 y] w fun e w' => e = .returned (.bool (decide (placeT x < placeT y))) ∧ w' = w := by
  have HN : Hid (∀ x W, Wd x → Calls Try.prog 34 #[.float .f64 x] W fun e w' => e = .returned (.bool (isN double x)) ∧ w' = W) := fun x W h => isnan_any x h W
  have HX : Hid (Wd x) := hx
  have HY : Hid (Wd y) := hy
  have h1 := order_lss x y hx hy
  cases hn : isN double x with
  | true =>
    have HV : Hid (decide (placeT x < placeT y) = false) := decide_eq_false (less_nan x y hy hn)
    rw [hn] at h1
    clear hx hy
    go_enter Try.func31, Try.ntmps31
    go_wp2_with (go_at_call 34; refine (HN.out _ _ (by first | exact HX.out | exact HY.out)).mono ?_; rintro e w' ⟨rfl, rfl⟩; try rw [hn])
    go_ret
    exact ⟨by rw [HV.out]; rfl, rfl⟩
  | false =>
    cases hn' : isN double y with
    | true =>
      have HV : Hid (decide (placeT x < placeT y) = true) := decide_eq_true (less_num_nan x y hx hn hn')
      rw [hn, hn'] at h1
      clear hx hy
      go_enter Try.func31, Try.ntmps31
      go_wp2_with (go_at_call 34; refine (HN.out _ _ (by first | exact HX.out | exact HY.out)).mono ?_; rintro e w' ⟨rfl, rfl⟩; try (first | rw [hn] | rw [hn']))
      go_ret
      exact ⟨by rw [HV.out]; rfl, rfl⟩
    | false =>
      rw [hn, hn'] at h1
      clear hx hy
      generalize decide (placeT x < placeT y) = tb at h1 ⊢
      simp only [Bool.not_false, Bool.true_and] at h1
      go_enter Try.func31, Try.ntmps31
      go_wp2_with (go_at_call 34; refine (HN.out _ _ (by first | exact HX.out | exact HY.out)).mono ?_; rintro e w' ⟨rfl, rfl⟩; try (first | rw [hn] | rw [hn']))
      go_ret
      exact ⟨by rfl, rfl⟩
end Go.Proofs.Ytbhnjhiecoapbab
namespace Go.Proofs.Ytbhnjhiecoapbab
open Go.ChangeShapes Go.WideShapes Go.ChangeAt Go.WideMaps Go.WideElems Go.RowKit
set_option maxRecDepth 20000

theorem wd_wf12 {b : Nat} (h : (Lit.float .f64 b).wf = true) : Wd b := by
  rw [wd_iff]
  simpa [Lit.wf] using h
theorem take_one12 {cs : List Value} {i : Nat} {v : Value} (h : (cs.drop i).take 1 = [v]) : cs[i]? = some v := by
  have := congrArg List.head? h
  rw [List.head?_take, if_neg (by decide), List.head?_drop] at this
  simpa using this
theorem field_int12 {P : Program} {H : Type} {enc : TypeId × Value → H} {W : World} {base : Nat} {spare : Nat → Bool} {held : Bool} {n : Nat} {t : TypeId} {cs : List Value} {y : Option (DataW H × List MemPlace)} {i : Nat} {k : IntKind} (ht : P.underlying t = some (.int k)) (hc : P.cellsOf t = 1)
    (h : DataW.trod enc P W base spare held n t ((cs.drop i).take (P.cellsOf t)) = y) (hy : y.isSome = true) : ∃ z : Int, cs[i]? = some (.int k z) := by
  obtain ⟨y', rfl⟩ := Option.isSome_iff_exists.1 hy
  obtain ⟨z, h1, _, h3⟩ := DataW.trod_int ht h
  rw [hc] at h1
  exact ⟨z, take_one12 h1⟩
theorem xs_some12 {α : Type} {xs : List α} {n i : Nat} (h : xs.length = n) (hi : i < n) : (xs[i]?).isSome = true := by
  rw [List.getElem?_eq_getElem (by omega)]; rfl
theorem cube_of12 {H : Type} {enc : TypeId × Value → H} {W : World} {base : Nat} {spare : Nat → Bool} {held : Bool} {fuel : Nat} {cs : List Value} {x : DataW H × List MemPlace} (hl : cs.length = 26)
    (h : DataW.trod enc Try.prog W base spare held fuel 30 cs = some x) : ∃ V M : List Int, cs = (cv V M).toList ∧ Byt V ∧ Byt M := by
  have c13 : Try.prog.cellsOf 24 = 13 := by kernel_rfl
  obtain ⟨y0, y1, k, hy, _, t0, t1⟩ := trod_struct2 Try.underlying30 h
  rw [c13] at t0 t1
  obtain ⟨V, hV, bV⟩ := bytes_of (by simp; omega) t0
  obtain ⟨M, hM, bM⟩ := bytes_of (by simp; omega) t1
  refine ⟨V, M, ?_, bV, bM⟩
  unfold cv hv
  rw [List.map_append, ← hV, ← hM]
  simp only [List.drop_zero]
  rw [List.take_of_length_le (l := List.drop 13 cs) (by simp; omega), List.take_append_drop]
theorem rule_of12 {H : Type} {enc : TypeId × Value → H} {W : World} {base : Nat} {spare : Nat → Bool} {held : Bool} (fuel : Nat) (cs : List Value) (x : DataW H × List MemPlace) (hl : cs.length = 28)
    (h : DataW.trod enc Try.prog W base spare held fuel 37 cs = some x) : ∃ r : { r : RuleM // okR8 r }, cs = (ruleV r.1).toList ∧ True := by
  have c3 : Try.prog.cellsOf 3 = 1 := by kernel_rfl
  have c26 : Try.prog.cellsOf 30 = 26 := by kernel_rfl
  obtain ⟨xs, n, _, _, _, hxl, hf⟩ := DataW.trod_struct Try.underlying37 h
  obtain ⟨n0, h0⟩ := field_int12 Try.underlying3 c3 (hf 0 _ rfl) (xs_some12 hxl (by decide))
  obtain ⟨n2, h2⟩ := field_int12 Try.underlying3 c3 (hf 2 _ rfl) (xs_some12 hxl (by decide))
  have h1 : DataW.trod enc Try.prog W base spare held n 30 ((cs.drop 1).take (Try.prog.cellsOf 30)) = xs[1]? := hf 1 _ rfl
  have hs1 := xs_some12 hxl (show 1 < 3 by decide)
  obtain ⟨y, hy⟩ := Option.isSome_iff_exists.1 hs1
  rw [hy] at h1
  rw [c26] at h1
  obtain ⟨V, M, hVM, bV, bM⟩ := cube_of12 (by simp; omega) h1
  have hR : okR8 ⟨n0, (V, M), n2⟩ := ⟨bV, bM⟩
  have key : cs = (ruleV ⟨n0, (V, M), n2⟩).toList := by
    have hsz := ruleV_size hR
    obtain ⟨r0, r1, r2⟩ := rule_at hR
    apply List.ext_getElem?
    intro k
    have e : (ruleV ⟨n0, (V, M), n2⟩).toList[k]? = (ruleV ⟨n0, (V, M), n2⟩)[k]? := Array.getElem?_toList
    rw [e]
    rcases (show k = 0 ∨ (1 ≤ k ∧ k < 27) ∨ k = 27 ∨ 28 ≤ k by omega) with rfl | ⟨k1, k2⟩ | rfl | hk
    · rw [r0]; exact h0
    · obtain ⟨j, rfl⟩ : ∃ j, k = 1 + j := ⟨k - 1, by omega⟩
      rw [r1 j (by omega), ← Array.getElem?_toList, ← hVM, List.getElem?_take_of_lt (by omega), List.getElem?_drop]
    · rw [r2]; exact h2
    · rw [List.getElem?_eq_none (by omega), Array.getElem?_eq_none (by omega)]
  exact ⟨⟨_, hR⟩, key, trivial⟩
theorem gsl_map12 {α β : Type} {E : El} {enc : β → Array Value} {f : α → β} {w : World} {v : Value} {C : List α} (h : GSl E (fun a => enc (f a)) w v C) : GSl E enc w v (C.map f) := by
  obtain ⟨o, cap, h1, h2, h3, h4⟩ := h
  refine ⟨o, cap, by rw [List.length_map]; exact h1, by rw [List.length_map]; exact h2, h3, fun i hi => ?_⟩
  have hi' : i < C.length := by rw [List.length_map] at hi; exact hi
  obtain ⟨g, off, cur, t, fr, e1, e2, e3⟩ := h4 i hi'
  refine ⟨g, off, cur, t, fr, e1, e2, fun j hj => ?_⟩
  have e4 := e3 j hj
  rw [List.getElem_map]
  exact e4
/-- Rules that come in. -/
theorem open_rules12 {H : Type} {enc : TypeId × Value → H} {W : World} {r : Reach} {b0 base : Nat} {spare : Nat → Bool} {held : Bool} {v : Value} {d : DataW H} {p : List MemPlace}
    (hok : Value.okWide Try.prog W r b0 38 v) (h : DataW.Trod enc Try.prog W base spare held 38 v d p) :
    ∃ l, RulesAt W v l ∧ ∀ r ∈ l, okR8 r := by
  obtain ⟨fuel, hf⟩ := h
  have hv1 : v.cells.toList = [v] := by
    simp only [Value.okWide, Cell.okWide, Cell.ok, Try.underlying38] at hok
    cases v <;> simp_all [Value.cells]
  rw [hv1] at hf
  have hin : Inhabited { r : RuleM // okR8 r } := ⟨⟨rule0, rule0_ok⟩⟩
  have hsz : ∀ a : { r : RuleM // okR8 r }, (ruleV a.1).size = RuleE.size := fun a => ruleV_size a.2
  have hof : ∀ (fuel : Nat) (cs : List Value) (x : DataW H × List MemPlace), cs.length = RuleE.size → DataW.trod enc Try.prog W base spare held fuel RuleE.elem cs = some x → ∃ r : { r : RuleM // okR8 r }, cs = (ruleV r.1).toList ∧ True := fun fuel cs x h1 h2 => rule_of12 fuel cs x h1 h2
  obtain ⟨l, h1, _⟩ := open_any (E := RuleE) RuleOk (fun r : { r : RuleM // okR8 r } => ruleV r.1) hsz (fun _ => True) hof hf
  refine ⟨l.map (fun q : { r : RuleM // okR8 r } => q.1), gsl_map12 (enc := ruleV) (f := fun q : { r : RuleM // okR8 r } => q.1) h1, fun r hr => ?_⟩
  obtain ⟨q, _, rfl⟩ := List.mem_map.1 hr
  exact q.2
end Go.Proofs.Ytbhnjhiecoapbab
namespace Go.Proofs.Ytbhnjhiecoapbab
open Go Go.RowKit
set_option maxRecDepth 20000

/-- A bit of a cube: 0, 1, or 2, if it is free. -/
def atI (V M : List Int) (i : Nat) : Int := if bt M i then (if bt V i then 1 else 0) else 2
theorem at_ne2 (V M : List Int) (i : Nat) : (atI V M i != 2) = bt M i := by
  unfold atI; cases bt M i <;> cases bt V i <;> rfl
theorem at_eq1 (V M : List Int) (i : Nat) : (atI V M i == 1) = (bt V i && bt M i) := by
  unfold atI; cases bt M i <;> cases bt V i <;> rfl
theorem at_ne0 (V M : List Int) (i : Nat) : (atI V M i != 0) = ((bt V i && bt M i) || !(bt M i)) := by
  unfold atI; cases bt M i <;> cases bt V i <;> rfl
theorem at_cases (V M : List Int) (i : Nat) : atI V M i = 0 ∨ atI V M i = 1 ∨ atI V M i = 2 := by
  unfold atI; cases bt M i <;> cases bt V i <;> simp

set_option maxHeartbeats 1000000 in
theorem at_any (V M : List Int) (hV : Byt V) (hM : Byt M) (i : Nat) (hi : i < 104) (w : World) :
    Calls Try.prog 18 #[.agg (cv V M), .int .i64 (i : Int)] w fun e w' => e = .returned (.int .i64 (atI V M i)) ∧ Below w.heap.size w w' := by
  have hVl := hV.1
  have hMl := hM.1
  have CM : Hid (∀ W, Calls Try.prog 19 #[.agg (hv M), .int .i64 (i : Int)] W fun e w' => e = .returned (.bool (bt M i)) ∧ Below W.heap.size W w') := rbit_nat M hM i hi
  have CV : Hid (∀ W, Calls Try.prog 19 #[.agg (hv V), .int .i64 (i : Int)] W fun e w' => e = .returned (.bool (bt V i)) ∧ Below W.heap.size W w') := rbit_nat V hV i hi
  clear hV hM
  unfold atI
  obtain ⟨bm, hbm⟩ : ∃ b, b = bt M i := ⟨_, rfl⟩
  obtain ⟨bv, hbv⟩ : ∃ b, b = bt V i := ⟨_, rfl⟩
  rw [← hbm] at CM ⊢
  rw [← hbv] at CV ⊢
  clear hbm hbv
  go_enter Try.func18, Try.ntmps18
  go_wp2_with (first
    | (refine wl_loadM rfl _ rfl w.heap.size rfl V M (heap_new _ _ _ rfl) hVl hMl ?_))
  refine (CM.out _).mono ?_
  rintro e w1 ⟨rfl, hb1⟩
  have g0 : w1.heap[w.heap.size]? = some (.cells (cv V M) 30 (0, 0)) := by rw [hb1.block _ (by simp)]; exact heap_new _ _ _ rfl
  have B1 : Below w.heap.size w w1 := ((Below.refl _ _).alloc (Nat.le_refl _) _).trans (hb1.mono (by simp))
  clear hb1 CM
  cases bm
  · go_wp2_with fail
    go_ret
    exact ⟨rfl, B1⟩
  · go_wp2_with (first
      | (refine wl_loadV rfl _ rfl w.heap.size rfl V M g0 hVl ?_))
    refine (CV.out _).mono ?_
    rintro e w2 ⟨rfl, hb2⟩
    have B2 := B1.trans (hb2.mono B1.size)
    clear hb2 CV
    cases bv
    · go_wp2_with fail
      go_ret
      exact ⟨rfl, B2⟩
    · go_wp2_with fail
      go_ret
      exact ⟨rfl, B2⟩

/-- The bits ahead of a place, all others nought. -/
def upto (k : Nat) (f : Nat → Bool) : List Int := mk fun j => decide (j < k) && f j
theorem upto_byt (k : Nat) (f : Nat → Bool) : Byt (upto k f) := mk_byt _
theorem upto_zero (f : Nat → Bool) : upto 0 f = Z := mk_ext _ _ fun i _ => by simp
theorem upto_all (f : Nat → Bool) : upto 104 f = mk f := mk_ext _ _ fun i hi => by simp [hi]
theorem upto_succ (k : Nat) (f : Nat → Bool) : setb (upto k f) k (f k) = upto (k + 1) f :=
  mk_ext _ _ fun i hi => by
    by_cases e : i = k
    · subst e; simp
    · rw [if_neg e]
      unfold upto
      rw [mk_bt _ i hi]
      congr 1
      rw [decide_eq_decide]
      omega
end Go.Proofs.Ytbhnjhiecoapbab
namespace Go.Proofs.Ytbhnjhiecoapbab
open Go Go.RowKit
set_option maxRecDepth 20000

/-- Has the second cube all that the first one has? -/
def within (V M V' M' : List Int) : Bool := (List.range 104).all fun i => !(bt M' i) || (bt M i && (bt V i == bt V' i))
theorem within_iff (V M V' M' : List Int) : within V M V' M' = true ↔ ∀ i, i < 104 → bt M' i = true → bt M i = true ∧ bt V i = bt V' i := by
  unfold within
  simp only [List.all_eq_true, List.mem_range, Bool.or_eq_true, Bool.not_eq_true', Bool.and_eq_true, beq_iff_eq]
  constructor
  · intro h i hi hm
    rcases h i hi with h' | h'
    · rw [h'] at hm; cases hm
    · exact h'
  · intro h i hi
    cases hm : bt M' i
    · exact .inl rfl
    · exact .inr (h i hi hm)

theorem within_eq (V M V' M' : List Int) (hM : Byt M) (h : meets V M V' M' = true) : (meetV V M V' M' == can V M && meetM M M' == M) = within V M V' M' := by
  rw [Bool.eq_iff_iff, Bool.and_eq_true, beq_iff_eq, beq_iff_eq, within_iff]
  have hm := (meets_iff V M V' M').1 h
  constructor
  · rintro ⟨_, g2⟩ i hi h1
    have e2 : bt (meetM M M') i = (bt M i || bt M' i) := mk_bt _ i hi
    rw [g2, h1, Bool.or_true] at e2
    exact ⟨e2, hm i hi e2 h1⟩
  · intro g
    refine ⟨mk_ext _ _ fun i hi => ?_, (mk_eq M hM _ fun i hi => ?_).symm⟩
    · have := g i hi
      revert this
      cases bt V i <;> cases bt V' i <;> cases bt M i <;> cases bt M' i <;> simp
    · have := g i hi
      revert this
      cases bt M i <;> cases bt M' i <;> simp
theorem within_no (V M V' M' : List Int) (h : meets V M V' M' = false) : within V M V' M' = false := by
  cases e : within V M V' M'
  · rfl
  · rw [within_iff] at e
    have : meets V M V' M' = true := (meets_iff _ _ _ _).2 fun i hi _ h2 => (e i hi h2).2
    rw [h] at this; cases this

set_option maxHeartbeats 2000000 in
theorem within_yes_any (V M V' M' : List Int) (hV : Byt V) (hM : Byt M) (hV' : Byt V') (hM' : Byt M') (h : meets V M V' M' = true) (w : World) :
    Calls Try.prog 32 #[.agg (cv V M), .agg (cv V' M')] w fun e w' => e = .returned (.bool (within V M V' M')) ∧ Below w.heap.size w w' := by
  have hVl := hV.1
  have hMl := hM.1
  have hVl' := hV'.1
  have hMl' := hM'.1
  have hAl := (meetV_byt V M V' M').1
  have hBl := (meetM_byt M M').1
  have hCl := (can_byt V M).1
  obtain ⟨r, hr⟩ : ∃ r, r = within V M V' M' := ⟨_, rfl⟩
  have C1 : Hid (∀ W, Calls Try.prog 27 #[.agg (cv V M), .agg (cv V' M')] W fun e w' => e = .returned (.tuple #[.agg (cv (meetV V M V' M') (meetM M M')), .bool true]) ∧ Below W.heap.size W w') := by
    have := meet_any V M V' M' hV hM hV' hM'; rwa [meetR_yes _ _ _ _ h] at this
  have C2 : Hid (∀ W, Calls Try.prog 22 #[.agg (cv V M)] W fun e w' => e = .returned (.agg (cv (can V M) M)) ∧ Below W.heap.size W w') := canon_any V M hV hM
  have e1 : ∀ w, (Op.equalIn 10000 30 (.agg (cv (meetV V M V' M') (meetM M M'))) (.agg (cv (can V M) M))).run Try.prog w = .ok r w := fun w => by rw [eqC _ _ _ _ hAl hBl hCl hMl, within_eq V M V' M' hM h, hr]
  have eg : ∀ op x y (xs ys : Array Value) w, (eqGuard op 30 x y (.agg xs) (.agg ys)).run Try.prog w = .ok () w := egC
  rw [← hr]
  clear hV hM hV' hM' h hr
  go_enter Try.func32, Try.ntmps32
  go_wp2_with (first
    | (refine wl_loadC rfl _ rfl w.heap.size rfl V M (heap_past _ _ _ _ (heap_new _ _ _ rfl)) hVl hMl ?_)
    | (refine wl_loadC rfl _ rfl (w.heap.size + 1) rfl V' M' (heap_new _ _ _ (by simp)) hVl' hMl' ?_))
  refine (C1.out _).mono ?_
  rintro e w1 ⟨rfl, hb1⟩
  have g0 : w1.heap[w.heap.size]? = some (.cells (cv V M) 30 (0, 0)) := by rw [hb1.block _ (by simp; omega)]; exact heap_past _ _ _ _ (heap_new _ _ _ rfl)
  have B1 : Below w.heap.size w w1 := (((Below.refl _ _).alloc (Nat.le_refl _) _).alloc (by simp) _).trans (hb1.mono (by simp; omega))
  clear hb1 C1
  have n0 := heap_past w1 (.cells (cv (meetV V M V' M') (meetM M M')) 30) _ _ g0
  have n1 := heap_new w1 (.cells (cv (meetV V M V' M') (meetM M M')) 30) _ rfl
  have B5 := B1.alloc B1.size (.cells (cv (meetV V M V' M') (meetM M M')) 30)
  obtain ⟨W, hW⟩ : ∃ W, W = w1.alloc (.cells (cv (meetV V M V' M') (meetM M M')) 30) := ⟨_, rfl⟩
  go_wp2_with (first
    | (refine wl_storeC rfl _ _ rfl w1.heap.size _ _ rfl rfl _ (heap_new _ _ _ rfl) rfl hAl hBl _ (setRow_new _ _ _ _ _ rfl) ?_))
  rw [← hW] at n0 n1 B5 ⊢
  clear hW g0 B1
  have ne1 := Later.ne W
  refine wp_region_later (by kernel_rfl) (by kernel_rfl) ?_
  go_big_quiet_step (fail)
  go_big_quiet_step (fail)
  refine qlC rfl _ rfl w1.heap.size rfl (meetV V M V' M') (meetM M M') n1 hAl hBl ?_
  simp only [Act.put, List.setIfInBounds_toArray, List.set_cons_succ, List.set_cons_zero]
  refine qlC rfl _ rfl w.heap.size rfl V M n0 hVl hMl ?_
  simp only [Act.put, List.setIfInBounds_toArray, List.set_cons_succ, List.set_cons_zero]
  go_big_quiet_want; go_big_quiet_op
  refine ⟨_, fun u => Calls.later_of (C2.out u.world), ?_⟩
  go_big_quiet_on
  go_big_quiet_step (fail)
  go_big_quiet_step (fail)
  go_big_quiet_step (fail)
  refine wpQuiet_nil ?_
  rintro w' ⟨u, rfl⟩
  go_wp2
  go_ret
  exact ⟨rfl, B5.trans (u.below.mono B5.size)⟩

set_option maxHeartbeats 2000000 in
theorem within_no_any (V M V' M' : List Int) (hV : Byt V) (hM : Byt M) (hV' : Byt V') (hM' : Byt M') (h : meets V M V' M' = false) (w : World) :
    Calls Try.prog 32 #[.agg (cv V M), .agg (cv V' M')] w fun e w' => e = .returned (.bool false) ∧ Below w.heap.size w w' := by
  have hVl := hV.1
  have hMl := hM.1
  have hVl' := hV'.1
  have hMl' := hM'.1
  have hzl := Z_byt.1
  have C1 : Hid (∀ W, Calls Try.prog 27 #[.agg (cv V M), .agg (cv V' M')] W fun e w' => e = .returned (.tuple #[.agg (cv Z Z), .bool false]) ∧ Below W.heap.size W w') := by
    have := meet_any V M V' M' hV hM hV' hM'; rwa [meetR_no _ _ _ _ h] at this
  clear hV hM hV' hM' h
  go_enter Try.func32, Try.ntmps32
  go_wp2_with (first
    | (refine wl_loadC rfl _ rfl w.heap.size rfl V M (heap_past _ _ _ _ (heap_new _ _ _ rfl)) hVl hMl ?_)
    | (refine wl_loadC rfl _ rfl (w.heap.size + 1) rfl V' M' (heap_new _ _ _ (by simp)) hVl' hMl' ?_))
  refine (C1.out _).mono ?_
  rintro e w1 ⟨rfl, hb1⟩
  have B1 : Below w.heap.size w w1 := (((Below.refl _ _).alloc (Nat.le_refl _) _).alloc (by simp) _).trans (hb1.mono (by simp; omega))
  clear hb1 C1
  have B5 := B1.alloc B1.size (.cells (cv Z Z) 30)
  obtain ⟨W, hW⟩ : ∃ W, W = w1.alloc (.cells (cv Z Z) 30) := ⟨_, rfl⟩
  go_wp2_with (first
    | (refine wl_storeC rfl _ _ rfl w1.heap.size Z Z rfl rfl _ (heap_new _ _ _ rfl) rfl hzl hzl _ (setRow_new _ _ _ _ _ rfl) ?_))
  rw [← hW] at B5 ⊢
  clear hW B1
  have ne1 := Later.ne W
  refine wp_region_later (by kernel_rfl) (by kernel_rfl) ?_
  go_big_quiet_step (fail)
  go_big_quiet_step (fail)
  go_big_quiet_step (fail)
  go_big_quiet_step (fail)
  go_big_quiet_step (fail)
  go_big_quiet_step (fail)
  go_big_quiet_step (fail)
  go_big_quiet_step (fail)
  refine wpQuiet_nil ?_
  rintro w' ⟨u, rfl⟩
  go_wp2
  go_ret
  exact ⟨rfl, B5.trans (u.below.mono B5.size)⟩

theorem within_any (V M V' M' : List Int) (hV : Byt V) (hM : Byt M) (hV' : Byt V') (hM' : Byt M') (w : World) :
    Calls Try.prog 32 #[.agg (cv V M), .agg (cv V' M')] w fun e w' => e = .returned (.bool (within V M V' M')) ∧ Below w.heap.size w w' := by
  cases h : meets V M V' M'
  · rw [within_no V M V' M' h]; exact within_no_any V M V' M' hV hM hV' hM' h w
  · exact within_yes_any V M V' M' hV hM hV' hM' h w

end Go.Proofs.Ytbhnjhiecoapbab
namespace Go.Proofs.Ytbhnjhiecoapbab
open Go Go.RowKit
set_option maxRecDepth 20000

def withinR (r a : RuleM) : Bool := within r.cube.1 r.cube.2 a.cube.1 a.cube.2
/-- Rules that lie within one that was kept are left out. -/
def trimO {α : Type} (q : α → α → Bool) : List α → List α → List α
  | out, [] => out
  | out, x :: l => if out.any (q x) then trimO q out l else trimO q (out ++ [x]) l
def trimT (l : List RuleM) : List RuleM := trimO withinR [] l
theorem trimO_take {α : Type} (q : α → α → Bool) (l : List α) (k : Nat) (x : α) (h : l[k]? = some x) : ∀ out, trimO q out (l.take (k + 1)) = if (trimO q out (l.take k)).any (q x) then trimO q out (l.take k) else trimO q out (l.take k) ++ [x] := by
  obtain ⟨hk, rfl⟩ := List.getElem?_eq_some_iff.1 h
  rw [List.take_succ_eq_append_getElem hk]
  generalize l.take k = t
  generalize l[k] = x
  induction t with
  | nil => intro out; simp [trimO]
  | cons y t ih =>
    intro out
    rw [List.cons_append, trimO, trimO]
    split
    · exact ih out
    · exact ih _
theorem trimO_sub {α : Type} (q : α → α → Bool) : ∀ (l out : List α) (x : α), x ∈ trimO q out l → x ∈ out ∨ x ∈ l
  | [], out, x, h => .inl h
  | y :: l, out, x, h => by
    rw [trimO] at h
    split at h
    · rcases trimO_sub q l out x h with h | h
      · exact .inl h
      · exact .inr (by simp [h])
    · rcases trimO_sub q l (out ++ [y]) x h with h | h
      · rcases List.mem_append.1 h with h | h
        · exact .inl h
        · exact .inr (by simp at h; simp [h])
      · exact .inr (by simp [h])
theorem trimO_len {α : Type} (q : α → α → Bool) : ∀ (l out : List α), (trimO q out l).length ≤ out.length + l.length
  | [], out => by simp [trimO]
  | y :: l, out => by
    rw [trimO]
    split
    · have := trimO_len q l out; simp; omega
    · have := trimO_len q l (out ++ [y]); simp at this ⊢; omega
theorem any_take_no {α : Type} {p : α → Bool} {l : List α} {k : Nat} {x : α} (h : (l.take k).any p = false) (hx : l[k]? = some x) (hp : p x = false) : (l.take (k + 1)).any p = false := by
  rw [List.take_add_one, hx, List.any_append, h]
  simp [hp]
theorem any_take_yes {α : Type} {p : α → Bool} {l : List α} {k : Nat} {x : α} (hx : l[k]? = some x) (hp : p x = true) : l.any p = true := List.any_eq_true.2 ⟨x, List.mem_of_getElem? hx, hp⟩

set_option maxHeartbeats 8000000 in
set_option maxRecDepth 100000 in
theorem trim_any (l : List RuleM) (hl0 : ∀ r ∈ l, okR8 r) (hn1 : l.length ≤ 100000) (vl : Value) (w : World) (hl : RulesAt w vl l) :
    Calls Try.prog 28 #[vl] w fun e w' => (∃ v, e = .returned v ∧ w'.ownsRow w.heap.size 37 28 v (trimT l).length (gcells ruleV (trimT l))) ∧ Below w.heap.size w w' := by
  have WI : Hid (∀ (V M V' M' : List Int) W, Byt V → Byt M → Byt V' → Byt M' → Calls Try.prog 32 #[.agg (cv V M), .agg (cv V' M')] W fun e w' => e = .returned (.bool (within V M V' M')) ∧ Below W.heap.size W w') := fun V M V' M' W h1 h2 h3 h4 => within_any V M V' M' h1 h2 h3 h4 W
  obtain ⟨o, cap, rfl, hc1, hc2⟩ := GSl.slice hl
  obtain ⟨n, hn0⟩ : ∃ n, n = l.length := ⟨_, rfl⟩
  have HN : Hid (n = l.length) := hn0
  rw [← hn0] at hl hc1 hn1 ⊢
  have HL : Hid (RulesAt w (.slice o n cap) l) := hl
  have HOK : Hid (∀ r ∈ l, okR8 r) := hl0
  unfold maxLen at hc2
  clear hl hn0 hl0
  go_enter Try.func28, Try.ntmps28
  go_wp2_with fail
  go_step3
  go_wp2_with fail
  go_step3
  go_wp2_with fail
  go_loopw [3, 10] (fun v i wr => ∃ (k : Nat) (T : List RuleM), k ≤ n ∧ i = .int .i64 (k : Int) ∧ Hid (T = trimO withinR [] (l.take k)) ∧ T.length ≤ k ∧ Hid (∀ r ∈ T, okR8 r) ∧ wr.ownsRow w.heap.size 37 28 v T.length (gcells ruleV T) ∧ Below w.heap.size w wr) (fun _ i _ => n - (intOf i).toNat)
  case atStart => exact ⟨0, [], Nat.zero_le _, rfl, rfl, Nat.le_refl _, fun r hr => by simp at hr, World.ownsRow_nil _ _ _ _, Below.refl _ _⟩
  case round =>
    obtain ⟨k, T, hk, rfl, HT, hTk, HTO, hown, hb⟩ := hrel
    have HO : Hid (wr.ownsRow w.heap.size 37 28 u3 T.length (gcells ruleV T)) := hown
    have HB : Hid (Below w.heap.size w wr) := hb
    obtain ⟨oT, cT, rfl⟩ := gown_slice hown
    clear hown hb
    by_cases hlt : k < n
    · have hlt' : (k : Int) < (n : Int) := by omega
      obtain ⟨g, off, cur, ty, fr, r, rfl, hg, hc, hxk⟩ := (GSl.below HL.out HB.out).at k hlt
      have hr : okR8 r := HOK.out r (List.mem_of_getElem? hxk)
      have HR : Hid (okR8 r) := hr
      have hsz := ruleV_size hr
      have K1 : Hid (wr.heap[g]? = some (.cells cur ty fr)) := hg
      have H1 : Hid (∀ j, j < 28 → cur[off + k * 28 + j]? = (ruleV r)[j]?) := hc
      have KN : Hid ((wr.alloc (.cells (ruleV r) 37)).heap[wr.heap.size]? = some (.cells (ruleV r) 37 (0, 0))) := heap_new _ _ _ rfl
      have BN : Hid (Below w.heap.size w (wr.alloc (.cells (ruleV r) 37))) := HB.out.alloc HB.out.size _
      have ON : Hid ((wr.alloc (.cells (ruleV r) 37)).ownsRow w.heap.size 37 28 (.slice oT T.length cT) T.length (gcells ruleV T)) := HO.out.alloc _
      have HNX : Hid (trimO withinR [] (l.take (k + 1)) = if T.any (withinR r) then T else T ++ [r]) := by
        show _ = _
        rw [HT.out]
        exact trimO_take withinR l k r hxk []
      clear hg hc hxk hr
      obtain ⟨nT, hnT⟩ : ∃ nT, nT = T.length := ⟨_, rfl⟩
      have HNT : Hid (nT = T.length) := hnT
      rw [← hnT] at hTk HO ON ⊢
      have hN : wr.heap.size < (wr.alloc (.cells (ruleV r) 37)).heap.size := by simp
      clear hnT
      go_wp2_with (first
        | (refine wl_loadE (E := RuleE) RuleOk rfl _ rfl g (off + k * 28) rfl cur ty fr (ruleV r) hsz K1.out H1.out ?_)
        | (refine wl_storeE (E := RuleE) RuleOk rfl _ _ rfl wr.heap.size (ruleV r) (rule_fits HR.out) rfl rfl _ (heap_new _ _ _ rfl) rfl _ (setRow_new _ _ _ _ _ rfl) ?_))
      obtain ⟨wo, hwo⟩ : ∃ wo : World, wo = wr.alloc (.cells (ruleV r) 37) := ⟨_, rfl⟩
      obtain ⟨gx, hgx⟩ : ∃ gx, gx = wr.heap.size := ⟨_, rfl⟩
      rw [← hwo, ← hgx] at KN
      rw [← hwo] at BN ON ⊢
      rw [← hgx]
      clear hwo hgx HO HB hN K1
      go_loopw [16] (fun i w2 => ∃ j : Nat, j ≤ nT ∧ i = .int .i64 (j : Int) ∧ Hid ((T.take j).any (withinR r) = false) ∧ w2.heap[gx]? = some (.cells (ruleV r) 37 (0, 0)) ∧ w2.ownsRow w.heap.size 37 28 (.slice oT nT cT) nT (gcells ruleV T) ∧ Below w.heap.size w w2) (fun i _ => nT - (intOf i).toNat)
      case atStart => exact ⟨0, Nat.zero_le _, rfl, rfl, KN.out, ON.out, BN.out⟩
      case round =>
        clear KN ON BN
        obtain ⟨j, hj, rfl, HJ, hkn, hon, hbn⟩ := hrel
        have KX : Hid (wr.heap[gx]? = some (.cells (ruleV r) 37 (0, 0))) := hkn
        have OX : Hid (wr.ownsRow w.heap.size 37 28 (.slice oT nT cT) nT (gcells ruleV T)) := hon
        have BX : Hid (Below w.heap.size w wr) := hbn
        clear hkn hon hbn
        by_cases hjt : j < nT
        · have hjt' : (j : Int) < (nT : Int) := by omega
          have hsl : RulesAt wr (.slice oT nT cT) T := by
            have := OX.out
            rw [HNT.out] at this ⊢
            exact gsl_of (E := RuleE) this fun c hc => ruleV_size (HTO.out c hc)
          obtain ⟨g2, off2, cur2, ty2, fr2, a, rfl, hg2, hc2', haj⟩ := hsl.at j hjt
          have ha : okR8 a := HTO.out a (List.mem_of_getElem? haj)
          have HAO : Hid (okR8 a) := ha
          have hsa := ruleV_size ha
          have K2 : Hid (wr.heap[g2]? = some (.cells cur2 ty2 fr2)) := hg2
          have H2 : Hid (∀ q, q < 28 → cur2[off2 + j * 28 + q]? = (ruleV a)[q]?) := hc2'
          have HAJ : Hid (T[j]? = some a) := haj
          have KA : Hid ((wr.alloc (.cells (ruleV a) 37)).heap[wr.heap.size]? = some (.cells (ruleV a) 37 (0, 0))) := heap_new _ _ _ rfl
          have KY : Hid ((wr.alloc (.cells (ruleV a) 37)).heap[gx]? = some (.cells (ruleV r) 37 (0, 0))) := heap_past _ _ _ _ KX.out
          have BY : Hid (Below w.heap.size w (wr.alloc (.cells (ruleV a) 37))) := BX.out.alloc BX.out.size _
          have OY : Hid ((wr.alloc (.cells (ruleV a) 37)).ownsRow w.heap.size 37 28 (.slice (some ⟨g2, off2, none⟩) nT cT) nT (gcells ruleV T)) := OX.out.alloc _
          clear hsl hg2 hc2' haj ha
          go_wp2_with (first
            | (refine wl_loadE (E := RuleE) RuleOk rfl _ rfl g2 (off2 + j * 28) rfl cur2 ty2 fr2 (ruleV a) hsa K2.out H2.out ?_)
            | (refine wl_storeE (E := RuleE) RuleOk rfl _ _ rfl wr.heap.size (ruleV a) (rule_fits HAO.out) rfl rfl _ (heap_new _ _ _ rfl) rfl _ (setRow_new _ _ _ _ _ rfl) ?_)
            | (refine wl_loadCw rfl _ rfl wr.heap.size 1 rfl _ _ _ a.cube.1 a.cube.2 HAO.out.1.1 HAO.out.2.1 KA.out (rule_at HAO.out).2.1 ?_)
            | (refine wl_loadCw rfl _ rfl gx 1 rfl _ _ _ r.cube.1 r.cube.2 HR.out.1.1 HR.out.2.1 KY.out (rule_at HR.out).2.1 ?_))
          refine (WI.out _ _ _ _ _ HR.out.1 HR.out.2 HAO.out.1 HAO.out.2).mono ?_
          rintro e w1 ⟨rfl, hb1⟩
          have BZ : Hid (Below w.heap.size w w1) := BY.out.trans (hb1.mono BY.out.size)
          have KZ : Hid (w1.heap[gx]? = some (.cells (ruleV r) 37 (0, 0))) := (hb1.block _ (Array.getElem?_eq_some_iff.1 KY.out).1).trans KY.out
          have OZ : Hid (w1.ownsRow w.heap.size 37 28 (.slice (some ⟨g2, off2, none⟩) nT cT) nT (gcells ruleV T)) := gown_below OY.out hb1
          clear hb1
          cases hwi : within r.cube.1 r.cube.2 a.cube.1 a.cube.2 with
          | true =>
            have HE : Hid (T = trimO withinR [] (l.take (k + 1))) := by
              show _ = _
              rw [HNX.out, if_pos (any_take_yes HAJ.out hwi)]
            clear hwi
            go_wp2_with fail
            go_roundw
            case rel => exact ⟨k + 1, T, by omega, by go_num, HE.out, by have := HNT.out; omega, HTO, by have := OZ.out; rw [HNT.out] at this ⊢; exact this, BZ.out⟩
            case measure => simp [intOf]; omega
          | false =>
            have HJ2 : Hid ((T.take (j + 1)).any (withinR r) = false) := any_take_no HJ.out HAJ.out hwi
            clear hwi
            go_wp2_with fail
            go_roundw
            case rel => exact ⟨j + 1, by omega, by go_num, HJ2, KZ.out, OZ.out, BZ.out⟩
            case measure => simp [intOf]; omega
        · have hjt' : ¬ (j : Int) < (nT : Int) := by omega
          have HE : Hid (T ++ [r] = trimO withinR [] (l.take (k + 1))) := by
            have h1 := HNT.out
            have h2 := HJ.out
            rw [List.take_of_length_le (by omega)] at h2
            show _ = _
            rw [HNX.out, h2]
            rfl
          have ON2 : Hid ((wr.alloc (.cells (ruleV r) 37)).ownsRow w.heap.size 37 28 (.slice oT nT cT) T.length (gcells ruleV T)) := by
            have := OX.out.alloc (.cells (ruleV r) 37)
            rw [HNT.out] at this ⊢; exact this
          go_wp2_with (first
            | (refine wl_loadE (E := RuleE) RuleOk rfl _ rfl gx 0 rfl _ _ _ (ruleV r) hsz KX.out (own_cells _ _) ?_)
            | (refine wl_buildE (E := RuleE) RuleOk rfl _ rfl (ruleV r) hsz rfl ?_)
            | (at_builtin; refine of_stopT ?_))
          unfold StopT
          refine wl_appendE (E := RuleE) RuleOk ruleV rfl _ _ rfl w.heap.size (.slice oT nT cT) T r (rule_fits HR.out) rfl ON2.out wr.heap.size 1 rfl (heap_new _ _ _ rfl) (by have := HNT.out; omega) (by have := BX.out.size; simp; omega) ?_
          intro v' w3 hown3 hgr3 _
          have B3 : Hid (Below w.heap.size w w3) := (BX.out.alloc BX.out.size _).trans ((Below.refl _ _).grown hgr3 (BX.out.alloc BX.out.size _).size fun k hk => (ON2.out.lt k hk).1)
          have O3 : Hid (w3.ownsRow w.heap.size 37 28 v' (T ++ [r]).length (gcells ruleV (T ++ [r]))) := hown3
          clear hown3 hgr3
          simp only [Act.put, List.setIfInBounds_toArray, List.set_cons_succ, List.set_cons_zero]
          go_wp2_with fail
          go_roundw
          case rel => exact ⟨k + 1, T ++ [r], by omega, by go_num, HE.out, by have := HNT.out; simp; omega, fun q hq => by
              rcases List.mem_append.1 hq with hq | hq
              · exact HTO.out q hq
              · obtain rfl : q = r := by simpa using hq
                exact HR.out, O3.out, B3.out⟩
          case measure => simp [intOf]; omega
    · have hlt' : ¬ (k : Int) < (n : Int) := by omega
      have HE : Hid (T = trimT l) := by
        have e := HN.out
        show _ = _
        rw [HT.out, List.take_of_length_le (by omega)]
        rfl
      go_wp2_with fail
      go_ret
      exact ⟨⟨_, rfl, by rw [← HE.out]; exact HO.out⟩, HB.out⟩
end Go.Proofs.Ytbhnjhiecoapbab
namespace Go.Proofs.Ytbhnjhiecoapbab
open Go Go.RowKit
set_option maxRecDepth 20000

theorem wl_zeroC {ops : Array Oper} {rest : List Oper} {o : Oper} {a : Act} {w : World} {Q : Exit → Act → World → Prop} (hg : o.guard = none) (ho : o.op = .build 30 #[])
    (h : wpList Try.prog ops Q rest (a.put o.dst (.agg (cv Z Z))) w) : wpList Try.prog ops Q (o :: rest) a w :=
  wpList_plain hg fun _ hK => by
    unfold Oper.wp execOp
    have e : ((#[] : Array (Nat × Operand)).map (fun (i, x) => (i, a.eval x))) = #[] := by simp
    have hb : (Instr.build 30 #[]).run Try.prog w = .ok (.agg (cv Z Z)) w := by
      rw [← zeroC_eq]; kernel_rfl
    simp only [ho, Sem.run_bind]
    rw [e, hb]
    exact hK _ _ h

set_option maxHeartbeats 2000000 in
theorem rhas_any (V M H : List Int) (hV : Byt V) (hM : Byt M) (hH : Byt H) (w : World) :
    Calls Try.prog 11 #[.agg (cv V M), .agg (hv H)] w fun e w' => e = .returned (.bool (has V M H)) ∧ Below w.heap.size w w' := by
  have hVl := hV.1
  have hMl := hM.1
  have hHl := hH.1
  have CA : Hid (∀ k : Nat, k < 104 → ∀ W, Calls Try.prog 18 #[.agg (cv V M), .int .i64 (k : Int)] W fun e w' => e = .returned (.int .i64 (atI V M k)) ∧ Below W.heap.size W w') := fun k hk => at_any V M hV hM k hk
  have CB : Hid (∀ k : Nat, k < 104 → ∀ W, Calls Try.prog 19 #[.agg (hv H), .int .i64 (k : Int)] W fun e w' => e = .returned (.bool (bt H k)) ∧ Below W.heap.size W w') := fun k hk => rbit_nat H hH k hk
  clear hV hM hH
  go_enter Try.func11, Try.ntmps11
  go_wp2_with fail
  go_loopw [5] (fun i wr => ∃ k : Nat, k ≤ 104 ∧ i = .int .i64 k ∧ (∀ j, j < k → bt M j = true → bt V j = bt H j) ∧ wr.heap[w.heap.size]? = some (.cells (cv V M) 30 (0, 0)) ∧ wr.heap[w.heap.size + 1]? = some (.cells (hv H) 24 (0, 0)) ∧ Below w.heap.size w wr) (fun i _ => 104 - (intOf i).toNat)
  case atStart => exact ⟨0, Nat.zero_le _, rfl, fun j hj => by omega, heap_past _ _ _ _ (heap_new _ _ _ rfl), heap_new _ _ _ (by simp), ((Below.refl _ _).alloc (Nat.le_refl _) _).alloc (by simp) _⟩
  case round =>
    obtain ⟨k, hk, rfl, hj, g0, g1, hb⟩ := hrel
    have HJ : Hid (∀ j, j < k → bt M j = true → bt V j = bt H j) := hj
    have hz := (Array.getElem?_eq_some_iff.1 g1).1
    clear hj
    by_cases hlt : k < 104
    · go_wp2_with (first
        | (refine wl_loadC rfl _ rfl w.heap.size rfl V M g0 hVl hMl ?_))
      refine (CA.out k hlt _).mono ?_
      rintro e w1 ⟨rfl, hb1⟩
      have k0 : w1.heap[w.heap.size]? = some (.cells (cv V M) 30 (0, 0)) := by rw [hb1.block _ (by omega)]; exact g0
      have k1 : w1.heap[w.heap.size + 1]? = some (.cells (hv H) 24 (0, 0)) := by rw [hb1.block _ (by omega)]; exact g1
      have B1 := hb.trans (hb1.mono hb.size)
      have hz1 := Nat.lt_of_lt_of_le hz hb1.size
      clear g0 g1 hb hb1 hz
      by_cases hm : bt M k = true
      · have HM : Hid (bt M k = true) := hm
        obtain ⟨bv, hbv⟩ : ∃ b, b = bt V k := ⟨_, rfl⟩
        have ea : atI V M k = if bv then 1 else 0 := by unfold atI; rw [hm, ← hbv]; rfl
        rw [ea]
        obtain ⟨bh, hbh⟩ : ∃ b, b = bt H k := ⟨_, rfl⟩
        have C1 : Hid (∀ W, Calls Try.prog 19 #[.agg (hv H), .int .i64 (k : Int)] W fun e w' => e = .returned (.bool bh) ∧ Below W.heap.size W w') := by rw [hbh]; exact CB.out k hlt
        have HBV : Hid (bv = bt V k) := hbv
        have HBH : Hid (bh = bt H k) := hbh
        clear hm ea hbv hbh
        cases bv <;> cases bh
        all_goals
          go_wp2_with (first
            | (refine wl_loadHg rfl _ rfl (w.heap.size + 1) rfl H k1 hHl ?_))
          refine (C1.out _).mono ?_
          rintro e w2 ⟨rfl, hb2⟩
          have l0 : w2.heap[w.heap.size]? = some (.cells (cv V M) 30 (0, 0)) := by rw [hb2.block _ (by omega)]; exact k0
          have l1 : w2.heap[w.heap.size + 1]? = some (.cells (hv H) 24 (0, 0)) := by rw [hb2.block _ (by omega)]; exact k1
          have B2 := B1.trans (hb2.mono B1.size)
          clear k0 k1 hb2 C1 B1 hz1
          go_wp2_with fail
        · go_roundw
          case rel =>
            refine ⟨k + 1, by omega, by go_num, fun j hj hm => ?_, l0, l1, B2⟩
            by_cases e : j = k
            · subst e; rw [← HBV.out, ← HBH.out]
            · exact HJ.out j (by omega) hm
          case measure => simp [intOf]; omega
        · go_ret
          refine ⟨ret_bool ?_, B2⟩
          cases e : has V M H
          · rfl
          · have := (has_iff V M H).1 e k hlt HM.out
            rw [← HBV.out, ← HBH.out] at this; cases this
        · go_ret
          refine ⟨ret_bool ?_, B2⟩
          cases e : has V M H
          · rfl
          · have := (has_iff V M H).1 e k hlt HM.out
            rw [← HBV.out, ← HBH.out] at this; cases this
        · go_roundw
          case rel =>
            refine ⟨k + 1, by omega, by go_num, fun j hj hm => ?_, l0, l1, B2⟩
            by_cases e : j = k
            · subst e; rw [← HBV.out, ← HBH.out]
            · exact HJ.out j (by omega) hm
          case measure => simp [intOf]; omega
      · have hm' : bt M k = false := by simpa using hm
        have HM : Hid (bt M k = false) := hm'
        have ea : atI V M k = 2 := by unfold atI; rw [hm']; rfl
        rw [ea]
        clear hm hm' ea
        go_wp2_with fail
        go_roundw
        case rel =>
          refine ⟨k + 1, by omega, by go_num, fun j hj hm => ?_, k0, k1, B1⟩
          by_cases e : j = k
          · subst e; rw [HM.out] at hm; cases hm
          · exact HJ.out j (by omega) hm
        case measure => simp [intOf]; omega
    · obtain rfl : k = 104 := by omega
      go_wp2_with fail
      go_ret
      exact ⟨ret_bool ((has_iff V M H).2 HJ.out).symm, hb⟩
end Go.Proofs.Ytbhnjhiecoapbab
