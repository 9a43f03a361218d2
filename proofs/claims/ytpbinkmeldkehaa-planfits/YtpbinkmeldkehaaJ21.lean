import Derived.Test.YtpbinkmeldkehaaJ20
import Derived.Test.YtpbinkmeldkehaaJ4
namespace Go.Proofs.Ytpbinkmeldkehaa
open Go Go.Lib Go.RowKit Ieee
set_option maxRecDepth 20000

/-! A half's rules are fewer than the leaf's. -/
theorem meetV_swap (V M V' M' : List Int) : meetV V M V' M' = meetV V' M' V M := by
  unfold meetV
  congr 1
  funext i
  exact Bool.or_comm _ _
theorem meetM_swap (M M' : List Int) : meetM M M' = meetM M' M := by
  unfold meetM
  congr 1
  funext i
  exact Bool.or_comm _ _
theorem meets_swap (V M V' M' : List Int) : meets V M V' M' = meets V' M' V M := by
  unfold meets
  congr 1
  funext i
  cases bt M i <;> cases bt M' i <;> cases bt V i <;> cases bt V' i <;> rfl
/-- The rule has all of a right cube. -/
theorem fR_within {V M : List Int} (hM : Byt M) (hc : can V M = V) {r : RuleM} (h : mR V M r = true) : fR V M r = within V M r.cube.1 r.cube.2 := by
  unfold mR at h
  rw [meets_swap] at h
  have e := within_eq V M r.cube.1 r.cube.2 hM h
  unfold fR
  rw [meetV_swap, meetM_swap, ← e, hc]
theorem cut_within {V M : List Int} {r x : RuleM} (h : cutR V M r = some x) : within x.cube.1 x.cube.2 V M = true := by
  unfold cutR at h
  split at h
  · rename_i hm
    cases h
    rw [within_iff]
    intro i hi hb
    have h1 := List.all_eq_true.1 (show (List.range 104).all _ = true from hm) i (List.mem_range.2 hi)
    show bt (meetM r.cube.2 M) i = true ∧ bt (meetV r.cube.1 r.cube.2 V M) i = bt V i
    have e1 : bt (meetM r.cube.2 M) i = (bt r.cube.2 i || bt M i) := mk_bt _ i hi
    have e2 : bt (meetV r.cube.1 r.cube.2 V M) i = ((bt r.cube.1 i && bt r.cube.2 i) || (bt V i && bt M i)) := mk_bt _ i hi
    rw [e1, e2, hb]
    rw [hb] at h1
    refine ⟨by simp, ?_⟩
    revert h1
    cases bt r.cube.2 i <;> cases bt r.cube.1 i <;> cases bt V i <;> simp
  · cases h
theorem trim_stop {α : Type} (q : α → α → Bool) : ∀ (l out : List α), (∀ x ∈ l, out.any (q x) = true) → trimO q out l = out
  | [], out, _ => rfl
  | x :: l, out, h => by
    rw [trimO, if_pos (h x (by simp))]
    exact trim_stop q l out fun y hy => h y (List.mem_cons_of_mem _ hy)
theorem trim_need {V M : List Int} : ∀ (l out : List RuleM), (trimO withinR out (meetL V M l)).length ≤ out.length + needF (mR V M) (fR V M) l
  | [], out => by simp [meetL, trimO, needF]
  | r :: l, out => by
    unfold needF
    cases hm : mR V M r with
    | false =>
      have e : meetL V M (r :: l) = meetL V M l := by
        unfold meetL
        rw [List.filterMap_cons, cutR_no hm]
      rw [e]
      simp only [Bool.false_eq_true, if_false]
      exact trim_need l out
    | true =>
      have e : meetL V M (r :: l) = ⟨r.order, (meetV r.cube.1 r.cube.2 V M, meetM r.cube.2 M), r.action⟩ :: meetL V M l := by
        unfold meetL
        rw [List.filterMap_cons, cutR_yes hm]
      rw [e]
      cases hf : fR V M r with
      | false =>
        rw [trimO]
        have i1 := trim_need (V := V) (M := M) l out
        have i2 := trim_need (V := V) (M := M) l (out ++ [⟨r.order, (meetV r.cube.1 r.cube.2 V M, meetM r.cube.2 M), r.action⟩])
        rw [List.length_append] at i2
        simp only [List.length_cons, List.length_nil] at i2
        simp only [Bool.false_eq_true, if_false, if_true]
        split <;> omega
      | true =>
        obtain ⟨f1, f2⟩ : meetV r.cube.1 r.cube.2 V M = V ∧ meetM r.cube.2 M = M := by
          unfold fR at hf
          simpa using hf
        rw [f1, f2]
        have hw : ∀ x ∈ meetL V M l, withinR x ⟨r.order, (V, M), r.action⟩ = true := fun x hx => by
          obtain ⟨a, _, h⟩ := List.mem_filterMap.1 hx
          exact cut_within h
        rw [trimO]
        simp only [if_true]
        split
        · rename_i ha
          obtain ⟨z, hz, hq⟩ := List.any_eq_true.1 ha
          rw [trim_stop _ _ _ fun x hx => List.any_eq_true.2 ⟨z, hz, withinR_trans _ _ _ (hw x hx) hq⟩]
          omega
        · rw [trim_stop _ _ _ fun x hx => List.any_eq_true.2 ⟨_, by simp, hw x hx⟩, List.length_append]
          simp
/-- A clipped list is no longer than what is needed of it. -/
theorem clip_need (V M : List Int) (l : List RuleM) : (clipT V M l).length ≤ needF (mR V M) (fR V M) l := by
  have h := trim_need (V := V) (M := M) l []
  rw [List.length_nil, Nat.zero_add] at h
  exact h
/-- So the halves by a bit that may be cut by have fewer rules than the leaf. -/
theorem half_fewer {b i z : Nat} {x : LeafM} (h : candO x.cube.1 x.cube.2 x.rules b i = some z) (c : Bool) : (halfL x i c).rules.length < x.rules.length := by
  have h1 := clip_need (fixV x.cube.1 x.cube.2 i c) (fixM x.cube.2 i) x.rules
  have h2 := need_le (mR (fixV x.cube.1 x.cube.2 i c) (fixM x.cube.2 i)) (fR (fixV x.cube.1 x.cube.2 i c) (fixM x.cube.2 i)) x.rules
  have h3 : cntH x.cube.1 x.cube.2 x.rules i c ≠ x.rules.length := by
    unfold candO at h
    split at h
    · cases h
    · split at h
      · cases h
      · rename_i hn
        intro e
        cases c with
        | false => exact hn (.inl e)
        | true => exact hn (.inr e)
  unfold cntH at h3
  show (clipT (fixV x.cube.1 x.cube.2 i c) (fixM x.cube.2 i) x.rules).length < _
  omega
/-- A half is right. -/
theorem fix_right (V M : List Int) (i : Nat) (c : Bool) : can (fixV V M i c) (fixM M i) = fixV V M i c := by
  have hb : Byt (fixV V M i c) := setb_byt _ i c
  refine (mk_eq _ hb _ fun k hk => ?_).symm
  have e1 : bt (fixV V M i c) k = if k = i then c else bt (can V M) k := setb_bt _ i c k hk
  have e2 : bt (fixM M i) k = if k = i then true else bt M k := setb_bt _ i true k hk
  have e3 : bt (can V M) k = (bt V k && bt M k) := mk_bt _ k hk
  rw [e1, e2, e3]
  by_cases e : k = i
  · rw [if_pos e, if_pos e]; simp
  · rw [if_neg e, if_neg e]
    cases bt V k <;> cases bt M k <;> rfl
end Go.Proofs.Ytpbinkmeldkehaa
namespace Go.Proofs.Ytpbinkmeldkehaa
open Go Go.Lib Go.RowKit Ieee
set_option maxRecDepth 20000

/-! The reference's Meets. -/
theorem at_range (V M : List Int) (k : Nat) : 0 ≤ atI V M k ∧ atI V M k ≤ 2 := by
  unfold atI
  cases bt M k <;> cases bt V k <;> decide
theorem at_sum (V M V' M' : List Int) (k : Nat) : (atI V M k + atI V' M' k == 1) = (bt M k && bt M' k && (bt V k != bt V' k)) := by
  unfold atI
  cases bt M k <;> cases bt V k <;> cases bt M' k <;> cases bt V' k <;> rfl
theorem meets_no12 {V M V' M' : List Int} {k : Nat} (hk : k < 104) (h : (bt M k && bt M' k && (bt V k != bt V' k)) = true) : meets V M V' M' = false := by
  rw [Bool.eq_false_iff]
  intro hm
  have := (meets_iff V M V' M').1 hm k hk
  revert h this
  cases bt M k <;> cases bt M' k <;> cases bt V k <;> cases bt V' k <;> simp
theorem meets_every12 {V M V' M' : List Int} (h : ∀ j, j < 104 → (bt M j && bt M' j && (bt V j != bt V' j)) = false) : meets V M V' M' = true := by
  rw [meets_iff]
  intro i hi
  have := h i hi
  revert this
  cases bt M i <;> cases bt M' i <;> cases bt V i <;> cases bt V' i <;> simp
set_option maxHeartbeats 4000000 in
theorem rmeets_any (V M V' M' : List Int) (hV : Byt V) (hM : Byt M) (hV' : Byt V') (hM' : Byt M') (w : World) :
    Calls Try.prog 85 #[.agg (cv V M), .agg (cv V' M')] w fun e w' => e = .returned (.bool (meets V M V' M')) ∧ Below w.heap.size w w' := by
  have hVl := hV.1
  have hMl := hM.1
  have hVl' := hV'.1
  have hMl' := hM'.1
  have CA : Hid (∀ k : Nat, k < 104 → ∀ W, Calls Try.prog 68 #[.agg (cv V M), .int .i64 (k : Int)] W fun e w' => e = .returned (.int .i64 (atI V M k)) ∧ Below W.heap.size W w') := fun k hk => at_any V M hV hM k hk
  have CB : Hid (∀ k : Nat, k < 104 → ∀ W, Calls Try.prog 68 #[.agg (cv V' M'), .int .i64 (k : Int)] W fun e w' => e = .returned (.int .i64 (atI V' M' k)) ∧ Below W.heap.size W w') := fun k hk => at_any V' M' hV' hM' k hk
  clear hV hM hV' hM'
  go_enter Try.func85, Try.ntmps85
  go_wp2_with fail
  go_loopw [5] (fun i wr => ∃ k : Nat, k ≤ 104 ∧ i = .int .i64 k ∧ Hid (∀ j, j < k → (bt M j && bt M' j && (bt V j != bt V' j)) = false) ∧ wr.heap[w.heap.size]? = some (.cells (cv V M) 42 (0, 0)) ∧ wr.heap[w.heap.size + 1]? = some (.cells (cv V' M') 42 (0, 0)) ∧ Below w.heap.size w wr) (fun i _ => 104 - (intOf i).toNat)
  case atStart => exact ⟨0, Nat.zero_le _, rfl, fun j hj => by omega, heap_past _ _ _ _ (heap_new _ _ _ rfl), heap_new _ _ _ (by simp), ((Below.refl _ _).alloc (Nat.le_refl _) _).alloc (by simp) _⟩
  case round =>
    obtain ⟨k, hk, rfl, HJ, g0, g1, hb⟩ := hrel
    by_cases hlt : k < 104
    · have hlt' : (k : Int) < 104 := by omega
      have D1 := CA.out k hlt
      have D2 := CB.out k hlt
      have hx := at_range V M k
      have hy := at_range V' M' k
      have hxy := at_sum V M V' M' k
      obtain ⟨x, hxe⟩ : ∃ x, x = atI V M k := ⟨_, rfl⟩
      obtain ⟨y, hye⟩ : ∃ y, y = atI V' M' k := ⟨_, rfl⟩
      rw [← hxe] at D1 hx hxy
      rw [← hye] at D2 hy hxy
      have E1 : Hid (∀ W, Calls Try.prog 68 #[.agg (cv V M), .int .i64 (k : Int)] W fun e w' => e = .returned (.int .i64 x) ∧ Below W.heap.size W w') := D1
      have E2 : Hid (∀ W, Calls Try.prog 68 #[.agg (cv V' M'), .int .i64 (k : Int)] W fun e w' => e = .returned (.int .i64 y) ∧ Below W.heap.size W w') := D2
      obtain ⟨z, hz⟩ : ∃ z, z = (bt M k && bt M' k && (bt V k != bt V' k)) := ⟨_, rfl⟩
      have HZ : Hid (z = (bt M k && bt M' k && (bt V k != bt V' k))) := hz
      rw [← hz] at hxy
      clear D1 D2 hxe hye hz
      have hx1 := hx.1
      have hx2 := hx.2
      have hy1 := hy.1
      have hy2 := hy.2
      clear hx hy
      go_wp2_with fail
      have ne1 := Later.ne wr
      refine wp_region_later (by kernel_rfl) (by kernel_rfl) ?_
      refine qlC rfl _ rfl w.heap.size rfl V M g0 hVl hMl ?_
      simp only [Act.put, List.setIfInBounds_toArray, List.set_cons_succ, List.set_cons_zero]
      go_big_quiet_step (fail)
      go_big_quiet_want; go_big_quiet_op
      refine ⟨_, fun u => Calls.later_of (E1.out u.world), ?_⟩
      go_big_quiet_on
      refine qlC rfl _ rfl (w.heap.size + 1) rfl V' M' g1 hVl' hMl' ?_
      simp only [Act.put, List.setIfInBounds_toArray, List.set_cons_succ, List.set_cons_zero]
      go_big_quiet_step (fail)
      go_big_quiet_want; go_big_quiet_op
      refine ⟨_, fun u => Calls.later_of (E2.out u.world), ?_⟩
      go_big_quiet_on
      go_big_quiet_step (fail)
      go_big_quiet_step (fail)
      refine wpQuiet_nil ?_
      rintro w' ⟨u, rfl⟩
      have hb2 := hb.trans (u.below.mono hb.size)
      have k0 := later_block g0 _ ⟨u, rfl⟩
      have k1 := later_block g1 _ ⟨u, rfl⟩
      try rw [hxy]
      clear ne1 hb g0 g1 hxy E1 E2
      cases z with
      | true =>
        have HE : Hid (meets V M V' M' = false) := meets_no12 hlt HZ.out.symm
        go_wp2_with fail
        go_ret
        exact ⟨by rw [HE.out]; rfl, hb2⟩
      | false =>
        have HJ2 : Hid (∀ j, j < k + 1 → (bt M j && bt M' j && (bt V j != bt V' j)) = false) := by
          intro j hj
          by_cases e : j = k
          · subst e; exact HZ.out.symm
          · exact HJ.out j (by omega)
        go_wp2_with fail
        go_roundw
        case rel => exact ⟨k + 1, by omega, by go_num, HJ2, k0, k1, hb2⟩
        case measure => simp [intOf]; omega
    · have HE : Hid (meets V M V' M' = true) := meets_every12 fun j hj => HJ.out j (by omega)
      have hlt' : ¬ (k : Int) < 104 := by omega
      go_wp2_with fail
      go_ret
      exact ⟨by rw [HE.out]; rfl, hb⟩
end Go.Proofs.Ytpbinkmeldkehaa
namespace Go.Proofs.Ytpbinkmeldkehaa
open Go Go.Lib Go.RowKit Ieee
set_option maxRecDepth 20000

/-! The reference's Needed. -/
def wR (V M : List Int) (r : RuleM) : Bool := within V M r.cube.1 r.cube.2
theorem need_wR {V M : List Int} (hM : Byt M) (hc : can V M = V) : ∀ l : List RuleM, needF (mR V M) (fR V M) l = needF (mR V M) (wR V M) l
  | [] => rfl
  | r :: l => by
    unfold needF
    rw [need_wR hM hc l]
    cases hm : mR V M r with
    | false => rfl
    | true => rw [fR_within hM hc hm]; rfl
set_option maxHeartbeats 16000000 in
theorem rneed_any (l : List RuleM) (hl0 : ∀ r ∈ l, okR8 r) (hn1 : l.length ≤ 100000) (vl : Value) (V M : List Int) (hV : Byt V) (hM : Byt M) (w : World) (hl : RulesAt w vl l) :
    Calls Try.prog 69 #[vl, .agg (cv V M)] w fun e w' => e = .returned (.int .i64 (needF (mR V M) (wR V M) l : Nat)) ∧ Below w.heap.size w w' := by
  have ME : Hid (∀ (r : RuleM) W, okR8 r → Calls Try.prog 85 #[.agg (cv r.cube.1 r.cube.2), .agg (cv V M)] W fun e w' => e = .returned (.bool (mR V M r)) ∧ Below W.heap.size W w') := fun r W hr => rmeets_any r.cube.1 r.cube.2 V M hr.1 hr.2 hV hM W
  have WI : Hid (∀ (r : RuleM) W, okR8 r → Calls Try.prog 88 #[.agg (cv V M), .agg (cv r.cube.1 r.cube.2)] W fun e w' => e = .returned (.bool (wR V M r)) ∧ Below W.heap.size W w') := fun r W hr => rwithin_any V M r.cube.1 r.cube.2 hV hM hr.1 hr.2 W
  have hVl := hV.1
  have hMl := hM.1
  obtain ⟨o, cap, rfl, hc1, hc2⟩ := GSl.slice hl
  obtain ⟨n, hn0⟩ : ∃ n, n = l.length := ⟨_, rfl⟩
  have HN : Hid (n = l.length) := hn0
  rw [← hn0] at hl hc1 hn1 ⊢
  have HL : Hid (RulesAt w (.slice o n cap) l) := hl
  have HOK : Hid (∀ r ∈ l, okR8 r) := hl0
  have NS : Hid (∀ (k : Nat) (r : RuleM), l[k]? = some r → (∀ j x, j < k → l[j]? = some x → mR V M x = true → wR V M x = false) → mR V M r = true → wR V M r = true → needF (mR V M) (wR V M) l = (l.take k).countP (mR V M) + 1) := fun k r h1 h2 h3 h4 => need_stop h1 h2 h3 h4
  have NA : Hid ((∀ j x, j < n → l[j]? = some x → mR V M x = true → wR V M x = false) → needF (mR V M) (wR V M) l = l.countP (mR V M)) := fun h => need_all fun j x hj hx => h j x (by rw [hn0]; exact hj) hx
  unfold maxLen at hc2
  clear hl hn0 hl0 hV hM
  go_enter Try.func69, Try.ntmps69
  go_wp2_with fail
  go_loopw [5, 6] (fun v i wr => ∃ (k m : Nat), k ≤ n ∧ i = .int .i64 (k : Int) ∧ v = .int .i64 (m : Int) ∧ m ≤ k ∧ Hid (m = (l.take k).countP (mR V M)) ∧ Hid (∀ j x, j < k → l[j]? = some x → mR V M x = true → wR V M x = false) ∧ Hid (wr.heap[w.heap.size]? = some (.cells (cv V M) 42 (0, 0))) ∧ Hid (Below w.heap.size w wr)) (fun _ i _ => n - (intOf i).toNat)
  case atStart => exact ⟨0, 0, Nat.zero_le _, rfl, rfl, Nat.le_refl _, rfl, fun j x hj => by omega, heap_new _ _ _ rfl, (Below.refl _ _).alloc (Nat.le_refl _) _⟩
  case round =>
    obtain ⟨k, m, hk, rfl, rfl, hmk, HC, HP, HZ, HB⟩ := hrel
    by_cases hlt : k < n
    · have hlt' : (k : Int) < (n : Int) := by omega
      obtain ⟨g, off, cur, ty, fr, r, rfl, hg, hc, hxk⟩ := (GSl.below HL.out HB.out).at k hlt
      have hr : okR8 r := HOK.out r (List.mem_of_getElem? hxk)
      have HR : Hid (okR8 r) := hr
      have HX : Hid (l[k]? = some r) := hxk
      have K1 : Hid (wr.heap[g]? = some (.cells cur ty fr)) := hg
      have H2 : Hid (∀ j, j < 26 → cur[off + k * 28 + 1 + j]? = (cv r.cube.1 r.cube.2)[j]?) := fun j hj => by
        have h3 := hc (1 + j) (by show 1 + j < 28; omega)
        rw [(rule_at hr).2.1 j hj] at h3
        rw [← h3]
        congr 1
        show off + k * 28 + 1 + j = off + k * 28 + (1 + j)
        omega
      have CT : Hid ((l.take (k + 1)).countP (mR V M) = m + if mR V M r then 1 else 0) := by show _ = _; rw [HC.out]; exact count_take hxk
      clear hg hc hxk hr
      go_wp2_with fail
      have ne1 := Later.ne wr
      refine wp_region_later (by kernel_rfl) (by kernel_rfl) ?_
      repeat go_big_quiet_step (fail)
      refine qlCw rfl _ rfl g (off + k * 28 + 1) rfl cur ty fr r.cube.1 r.cube.2 HR.out.1.1 HR.out.2.1 (later_block K1.out) H2.out ?_
      simp only [Act.put, List.setIfInBounds_toArray, List.set_cons_succ, List.set_cons_zero]
      refine qlC rfl _ rfl w.heap.size rfl V M HZ.out hVl hMl ?_
      simp only [Act.put, List.setIfInBounds_toArray, List.set_cons_succ, List.set_cons_zero]
      go_big_quiet_want; go_big_quiet_op
      refine ⟨_, fun u => Calls.later_of (ME.out r u.world HR.out), ?_⟩
      go_big_quiet_on
      repeat go_big_quiet_step (fail)
      refine wpQuiet_nil ?_
      rintro w1 ⟨v5, rfl⟩
      have hb1 := v5.below
      obtain ⟨w1, hw1⟩ : ∃ w1, w1 = v5.world := ⟨_, rfl⟩
      rw [← hw1] at hb1 ⊢
      have B1 : Hid (Below w.heap.size w w1) := HB.out.trans (hb1.mono HB.out.size)
      have Z1 : Hid (w1.heap[w.heap.size]? = some (.cells (cv V M) 42 (0, 0))) := (hb1.block _ (Array.getElem?_eq_some_iff.1 HZ.out).1).trans HZ.out
      have K2 : Hid (w1.heap[g]? = some (.cells cur ty fr)) := (hb1.block _ (Array.getElem?_eq_some_iff.1 K1.out).1).trans K1.out
      clear hb1 hw1 v5 ne1 K1 HZ HB
      cases hm : mR V M r with
      | false =>
        have HC2 : Hid (m = (l.take (k + 1)).countP (mR V M)) := by show _ = _; rw [CT.out, hm]; rfl
        have HP2 : Hid (∀ j x, j < k + 1 → l[j]? = some x → mR V M x = true → wR V M x = false) := by
          intro j x hj hx hmx
          by_cases e : j = k
          · subst e; rw [HX.out] at hx; cases hx; rw [hm] at hmx; cases hmx
          · exact HP.out j x (by omega) hx hmx
        clear hm
        go_wp2_with fail
        go_roundw
        case rel => exact ⟨k + 1, m, by omega, by go_num, rfl, by omega, HC2, HP2, Z1, B1⟩
        case measure => simp [intOf]; omega
      | true =>
        have HMR : Hid (mR V M r = true) := hm
        clear hm
        go_wp2_with fail
        have ne1 := Later.ne w1
        refine wp_region_later (by kernel_rfl) (by kernel_rfl) ?_
        refine qlC rfl _ rfl w.heap.size rfl V M Z1.out hVl hMl ?_
        simp only [Act.put, List.setIfInBounds_toArray, List.set_cons_succ, List.set_cons_zero]
        repeat go_big_quiet_step (fail)
        refine qlCw rfl _ rfl g (off + k * 28 + 1) rfl cur ty fr r.cube.1 r.cube.2 HR.out.1.1 HR.out.2.1 (later_block K2.out) H2.out ?_
        simp only [Act.put, List.setIfInBounds_toArray, List.set_cons_succ, List.set_cons_zero]
        go_big_quiet_want; go_big_quiet_op
        refine ⟨_, fun u => Calls.later_of (WI.out r u.world HR.out), ?_⟩
        go_big_quiet_on
        refine wpQuiet_nil ?_
        rintro w2 ⟨v6, rfl⟩
        have hb2 := v6.below
        obtain ⟨w2, hw2⟩ : ∃ w2, w2 = v6.world := ⟨_, rfl⟩
        rw [← hw2] at hb2 ⊢
        have B2 : Hid (Below w.heap.size w w2) := B1.out.trans (hb2.mono B1.out.size)
        have Z2 : Hid (w2.heap[w.heap.size]? = some (.cells (cv V M) 42 (0, 0))) := (hb2.block _ (Array.getElem?_eq_some_iff.1 Z1.out).1).trans Z1.out
        clear hb2 hw2 v6 ne1
        cases hw : wR V M r with
        | true =>
          have EN : Hid (needF (mR V M) (wR V M) l = m + 1) := by show _ = _; rw [NS.out k r HX.out HP.out HMR.out hw, HC.out]
          clear hw
          go_wp2_with fail
          go_ret
          exact ⟨by rw [EN.out]; first | rfl | simp, B2.out⟩
        | false =>
          have HC2 : Hid (m + 1 = (l.take (k + 1)).countP (mR V M)) := by show _ = _; rw [CT.out, HMR.out]; rfl
          have HP2 : Hid (∀ j x, j < k + 1 → l[j]? = some x → mR V M x = true → wR V M x = false) := by
            intro j x hj hx hmx
            by_cases e : j = k
            · subst e; rw [HX.out] at hx; cases hx; exact hw
            · exact HP.out j x (by omega) hx hmx
          clear hw
          go_wp2_with fail
          go_roundw
          case rel => exact ⟨k + 1, m + 1, by omega, by go_num, by go_num, by omega, HC2, HP2, Z2, B2⟩
          case measure => simp [intOf]; omega
    · have hlt' : ¬ (k : Int) < (n : Int) := by omega
      have EN : Hid (needF (mR V M) (wR V M) l = m) := by
        show _ = _
        rw [NA.out (fun j x hj => HP.out j x (by omega)), HC.out, List.take_of_length_le (by have := HN.out; omega)]
      go_wp2_with fail
      go_ret
      exact ⟨by rw [EN.out]; rfl, HB.out⟩
end Go.Proofs.Ytpbinkmeldkehaa
namespace Go.Proofs.Ytpbinkmeldkehaa
open Go Go.Lib Go.RowKit Ieee
set_option maxRecDepth 20000

/-! The reference's Best. -/
set_option maxHeartbeats 16000000 in
theorem rbst_any (l : List RuleM) (hl0 : ∀ r ∈ l, okR8 r) (hn1 : l.length ≤ 100000) (vl : Value) (V M : List Int) (hV : Byt V) (hM : Byt M) (b : Nat) (hwb : Wd b) (w : World) (hl : RulesAt w vl l) :
    Calls Try.prog 49 #[vl, .agg (cv V M), .float .f64 b] w fun e w' => e = .returned (.tuple #[.int .i64 (bI (bestO V M l b 104) : Nat), .bool (bestO V M l b 104).isSome]) ∧ Below w.heap.size w w' := by
  have AT : Hid (∀ (k : Nat) W, k < 104 → Calls Try.prog 68 #[.agg (cv V M), .int .i64 (k : Int)] W fun e w' => e = .returned (.int .i64 (atI V M k)) ∧ Below W.heap.size W w') := fun k W hk => at_any V M hV hM k hk W
  have H0 : Hid (∀ (k : Nat) W, k < 104 → Calls Try.prog 50 #[.agg (cv V M), .int .i64 (k : Int), .int .i64 0] W fun e w' => e = .returned (.agg (cv (fixV V M k false) (fixM M k))) ∧ Below W.heap.size W w') := fun k W hk => rhalf_any V M hV hM k hk false W
  have H1 : Hid (∀ (k : Nat) W, k < 104 → Calls Try.prog 50 #[.agg (cv V M), .int .i64 (k : Int), .int .i64 1] W fun e w' => e = .returned (.agg (cv (fixV V M k true) (fixM M k))) ∧ Below W.heap.size W w') := fun k W hk => rhalf_any V M hV hM k hk true W
  have CN : Hid (∀ (k : Nat) (c : Bool) W, RulesAt W vl l → Calls Try.prog 69 #[vl, .agg (cv (fixV V M k c) (fixM M k))] W fun e w' => e = .returned (.int .i64 (cntH V M l k c : Nat)) ∧ Below W.heap.size W w') := fun k c W h3 => by
    have h := rneed_any l hl0 hn1 vl (fixV V M k c) (fixM M k) (setb_byt _ k c) (setb_byt _ k true) W h3
    rw [← need_wR (V := fixV V M k c) (M := fixM M k) (setb_byt _ k true) (fix_right V M k c) l] at h
    exact h
  have CL : Hid (∀ W, Calls Try.prog 70 #[.float .f64 b] W fun e w' => e = .returned (.float .f64 (cleanT b)) ∧ w' = W) := fun W => rclean_any b hwb W
  have LS : Hid (∀ (x y : Nat) W, Wd x → Wd y → Calls Try.prog 71 #[.float .f64 x, .float .f64 y] W fun e w' => e = .returned (.bool (decide (placeT x < placeT y))) ∧ w' = W) := fun x y W h1 h2 => rless_any x y h1 h2 W
  have hVl := hV.1
  have hMl := hM.1
  obtain ⟨o, cap, rfl, hc1, hc2⟩ := GSl.slice hl
  obtain ⟨n, hn0⟩ : ∃ n, n = l.length := ⟨_, rfl⟩
  have HN : Hid (n = l.length) := hn0
  rw [← hn0] at hl hc1 hn1 CN ⊢
  have HL : Hid (RulesAt w (.slice o n cap) l) := hl
  unfold maxLen at hc2
  obtain ⟨R, hR⟩ : ∃ R, R = bestO V M l b 104 := ⟨_, rfl⟩
  have HRR : Hid (R = bestO V M l b 104) := hR
  rw [← hR]
  clear hl hn0 hl0 hV hM hR hwb
  go_enter Try.func49, Try.ntmps49
  go_wp2_with fail
  go_loopw [8, 9, 10] (fun v x i wr => ∃ (k bi bx : Nat) (fb : Bool) (vi : Int), k ≤ 104 ∧ i = .int .i64 (k : Int) ∧ v = .int .i64 vi ∧ x = .float .f64 bx ∧ Hid (vi = if fb then (bi : Int) else -1) ∧ Hid (At12 V M l b k bi bx fb) ∧ Hid (wr.heap[w.heap.size]? = some (.cells (cv V M) 42 (0, 0))) ∧ Hid (Below w.heap.size w wr)) (fun _ _ i _ => 104 - (intOf i).toNat)
  case atStart => exact ⟨0, 0, 0, false, -1, Nat.zero_le _, rfl, rfl, rfl, rfl, ⟨rfl, rfl, rfl⟩, heap_new _ _ _ rfl, (Below.refl _ _).alloc (Nat.le_refl _) _⟩
  case round =>
    obtain ⟨k, bi, bx, fb, vi, hk, rfl, rfl, rfl, HVI, HA, HZ, HB⟩ := hrel
    by_cases hlt : k < 104
    · have hlt' : (k : Int) < 104 := by omega
      have at1 := AT.out k wr hlt
      have hne := at_ne2 V M k
      generalize atI V M k = z at at1 hne
      rcases Bool.eq_false_or_eq_true (bt M k) with hbt | hbt
      · have HNO : Hid (candO V M l b k = none) := by show _ = _; unfold candO; rw [if_pos hbt]
        rw [hbt] at hne
        clear hbt
        have HE : Hid (bestO V M l b (k + 1) = bestO V M l b k) := bestO_no HNO.out
        go_wp2_with (first | ((with_reducible refine wl_gC12 _ rfl ?_); refine wl_loadCw rfl _ rfl w.heap.size 0 rfl _ _ _ V M hVl hMl HZ.out (own_cells _ _) ?_) | (go_at_call 68; refine at1.mono ?_; rintro e w1 ⟨rfl, hb1⟩; refine of_stopT ?_))
        unfold StopT
        have B1 : Hid (Below w.heap.size w w1) := below_stepR HB.out HB.out.size hb1
        have Z1 : Hid (w1.heap[w.heap.size]? = some (.cells (cv V M) 42 (0, 0))) := (hb1.block _ (Array.getElem?_eq_some_iff.1 HZ.out).1).trans HZ.out
        clear hb1 at1
        go_wp2_with fail
        go_roundw
        case rel => exact ⟨k + 1, bi, bx, fb, vi, by omega, by go_num, rfl, rfl, HVI, at_stay HE.out HA.out, Z1, B1⟩
        case measure => simp [intOf]; omega
      · have HBT : Hid (bt M k = false) := hbt
        rw [hbt] at hne
        clear hbt
        have hn0 : cntH V M l k false ≤ n := by rw [HN.out]; exact need_le _ _ _
        have hn2 : cntH V M l k true ≤ n := by rw [HN.out]; exact need_le _ _ _
        have HNO : Hid (cntH V M l k false = n ∨ cntH V M l k true = n → candO V M l b k = none) := fun h => by rw [HN.out] at h; unfold candO; rw [HBT.out, if_neg (by simp), if_pos h]
        have HYE : Hid (cntH V M l k false ≠ n → cntH V M l k true ≠ n → candO V M l b k = some (costC (max (cntH V M l k false) (cntH V M l k true)) (cntH V M l k false + cntH V M l k true) b)) := fun h1 h2 => by rw [HN.out] at h1 h2; unfold candO; rw [HBT.out, if_neg (by simp), if_neg (fun h => h.elim h1 h2)]
        have n0 := CN.out k false
        have n1 := CN.out k true
        have a0 := fun W => H0.out k W hlt
        have a1 := fun W => H1.out k W hlt
        generalize cntH V M l k false = c0 at n0 hn0 HNO HYE
        generalize cntH V M l k true = c1 at n1 hn2 HNO HYE
        generalize fixV V M k false = A0 at a0 n0
        generalize fixV V M k true = A1 at a1 n1
        generalize fixM M k = AM at a0 a1 n0 n1
        have A0C : Hid (∀ W, Calls Try.prog 50 #[.agg (cv V M), .int .i64 (k : Int), .int .i64 0] W fun e w' => e = .returned (.agg (cv A0 AM)) ∧ Below W.heap.size W w') := a0
        have A1C : Hid (∀ W, Calls Try.prog 50 #[.agg (cv V M), .int .i64 (k : Int), .int .i64 1] W fun e w' => e = .returned (.agg (cv A1 AM)) ∧ Below W.heap.size W w') := a1
        have N0C : Hid (∀ W, RulesAt W (.slice o n cap) l → Calls Try.prog 69 #[.slice o n cap, .agg (cv A0 AM)] W fun e w' => e = .returned (.int .i64 (c0 : Int)) ∧ Below W.heap.size W w') := n0
        have N1C : Hid (∀ W, RulesAt W (.slice o n cap) l → Calls Try.prog 69 #[.slice o n cap, .agg (cv A1 AM)] W fun e w' => e = .returned (.int .i64 (c1 : Int)) ∧ Below W.heap.size W w') := n1
        clear a0 a1 n0 n1
        go_wp2_with (first | ((with_reducible refine wl_gC12 _ rfl ?_); refine wl_loadCw rfl _ rfl w.heap.size 0 rfl _ _ _ V M hVl hMl HZ.out (own_cells _ _) ?_) | (go_at_call 68; refine at1.mono ?_; rintro e w1 ⟨rfl, hb1⟩; refine of_stopT ?_))
        unfold StopT
        have B1 : Hid (Below w.heap.size w w1) := below_stepR HB.out HB.out.size hb1
        have Z1 : Hid (w1.heap[w.heap.size]? = some (.cells (cv V M) 42 (0, 0))) := (hb1.block _ (Array.getElem?_eq_some_iff.1 HZ.out).1).trans HZ.out
        clear hb1 at1 HZ HB
        go_wp2_with (first | ((with_reducible refine wl_gC12 _ rfl ?_); refine wl_loadCw rfl _ rfl w.heap.size 0 rfl _ _ _ V M hVl hMl Z1.out (own_cells _ _) ?_) | (go_at_call 50; refine (A0C.out _).mono ?_; rintro e w2 ⟨rfl, hb2⟩; refine of_stopT ?_))
        unfold StopT
        have B2 : Hid (Below w.heap.size w w2) := below_stepR B1.out B1.out.size hb2
        have Z2 : Hid (w2.heap[w.heap.size]? = some (.cells (cv V M) 42 (0, 0))) := (hb2.block _ (Array.getElem?_eq_some_iff.1 Z1.out).1).trans Z1.out
        clear hb2 Z1
        have nn0 := N0C.out w2 (GSl.below HL.out B2.out)
        go_wp2_with (first | (go_at_call 69; refine nn0.mono ?_; rintro e w3 ⟨rfl, hb3⟩; refine of_stopT ?_))
        unfold StopT
        have B3 : Hid (Below w.heap.size w w3) := below_stepR B2.out B2.out.size hb3
        have Z3 : Hid (w3.heap[w.heap.size]? = some (.cells (cv V M) 42 (0, 0))) := (hb3.block _ (Array.getElem?_eq_some_iff.1 Z2.out).1).trans Z2.out
        clear hb3 Z2 nn0 B2 B1
        go_wp2_with (first | ((with_reducible refine wl_gC12 _ rfl ?_); refine wl_loadCw rfl _ rfl w.heap.size 0 rfl _ _ _ V M hVl hMl Z3.out (own_cells _ _) ?_) | (go_at_call 50; refine (A1C.out _).mono ?_; rintro e w4 ⟨rfl, hb4⟩; refine of_stopT ?_))
        unfold StopT
        have B4 : Hid (Below w.heap.size w w4) := below_stepR B3.out B3.out.size hb4
        have Z4 : Hid (w4.heap[w.heap.size]? = some (.cells (cv V M) 42 (0, 0))) := (hb4.block _ (Array.getElem?_eq_some_iff.1 Z3.out).1).trans Z3.out
        clear hb4 Z3
        have nn1 := N1C.out w4 (GSl.below HL.out B4.out)
        go_wp2_with (first | (go_at_call 69; refine nn1.mono ?_; rintro e w5 ⟨rfl, hb5⟩; refine of_stopT ?_))
        unfold StopT
        have B5 : Hid (Below w.heap.size w w5) := below_stepR B4.out B4.out.size hb5
        have Z5 : Hid (w5.heap[w.heap.size]? = some (.cells (cv V M) 42 (0, 0))) := (hb5.block _ (Array.getElem?_eq_some_iff.1 Z4.out).1).trans Z4.out
        clear hb5 Z4 nn1 B4 B3
        by_cases hq0 : c0 = n
        · have HE : Hid (bestO V M l b (k + 1) = bestO V M l b k) := bestO_no (HNO.out (.inl hq0))
          have hg0 : (c0 : Int) ≥ (n : Int) := by omega
          clear hq0
          go_wp2_with fail
          go_roundw
          case rel => exact ⟨k + 1, bi, bx, fb, vi, by omega, by go_num, rfl, rfl, HVI, at_stay HE.out HA.out, Z5, B5⟩
          case measure => simp [intOf]; omega
        · have hg0 : ¬ (c0 : Int) ≥ (n : Int) := by omega
          by_cases hq1 : c1 = n
          · have HE : Hid (bestO V M l b (k + 1) = bestO V M l b k) := bestO_no (HNO.out (.inr hq1))
            have hg1 : (c1 : Int) ≥ (n : Int) := by omega
            clear hq0 hq1
            go_wp2_with fail
            go_roundw
            case rel => exact ⟨k + 1, bi, bx, fb, vi, by omega, by go_num, rfl, rfl, HVI, at_stay HE.out HA.out, Z5, B5⟩
            case measure => simp [intOf]; omega
          · have hg1 : ¬ (c1 : Int) ≥ (n : Int) := by omega
            have HY : Hid (candO V M l b k = some (costC (max c0 c1) (c0 + c1) b)) := HYE.out hq0 hq1
            clear hq0 hq1 HYE HNO
            have hgm : max c0 c1 ≤ 1000000 := by omega
            have hsm : c0 + c1 ≤ 1000000 := by omega
            have f1 := foi ((c0 : Int) + (c1 : Int)) (by omega)
            rw [show ((c0 : Int) + (c1 : Int)).toNat = c0 + c1 by omega] at f1
            have HMX : Hid (((max c0 c1 : Nat) : Int) = max (c0 : Int) (c1 : Int)) := by show _ = _; omega
            generalize max c0 c1 = g1 at HY hgm HMX
            have f2 := foi (g1 : Int) (by omega)
            rw [Int.toNat_natCast] at f2
            have lg : intF g1 < double.infRung := intF_lt _ (by omega)
            have lq : intF (c0 + c1) < double.infRung := intF_lt _ (by omega)
            have f3 := mulF Try.prog (cleanT b) (intF (c0 + c1)) (cleanT_lt b) lq
            have f4 := sumF Try.prog (intF g1) (mulR (cleanT b) (intF (c0 + c1))) lg (mulR_le _ _)
            have HXW : Hid (Wd (costC g1 (c0 + c1) b)) := costC_wd _ _ _
            have HBW : Hid (Wd bx) := by show Wd bx; rw [HA.out.2.1]; exact best_wd _ _ _ _ _
            have HCE : Hid (costC g1 (c0 + c1) b = sumR (intF g1) (mulR (cleanT b) (intF (c0 + c1)))) := rfl
            rw [← HCE.out] at f4
            clear HCE
            generalize costC g1 (c0 + c1) b = x at HY HXW f4
            generalize mulR (cleanT b) (intF (c0 + c1)) = D at f3 f4
            generalize intF (c0 + c1) = S at f1 f3
            generalize intF g1 = G at f2 f4
            have cl := CL.out w5
            generalize cleanT b = cb at f3 cl
            have ls := LS.out x bx w5 HXW.out HBW.out
            clear lg lq hgm hsm
            cases fb with
            | false =>
              obtain rfl : vi = -1 := HVI.out
              have HE : Hid (bestO V M l b (k + 1) = some (k, x)) := bestO_first HY.out HA.out.2.2.symm
              go_wp2_with (first | (go_at_call 70; refine cl.mono ?_; rintro e w' ⟨rfl, rfl⟩) | (refine wl_maxI rfl _ _ rfl (c0 : Int) (c1 : Int) (g1 : Int) rfl rfl HMX.out ?_))
              go_roundw
              case rel => exact ⟨k + 1, k, x, true, k, by omega, by go_num, rfl, rfl, rfl, at_new HE.out, Z5, B5⟩
              case measure => simp [intOf]; omega
            | true =>
              obtain rfl : vi = (bi : Int) := HVI.out
              have hbi : ¬ (bi : Int) < 0 := by omega
              by_cases hp : placeT x < placeT bx
              · have HE : Hid (bestO V M l b (k + 1) = some (k, x)) := bestO_less HY.out (by rw [← HA.out.2.1]; exact hp)
                rw [decide_eq_true hp] at ls
                clear hp
                go_wp2_with (first | (go_at_call 70; refine cl.mono ?_; rintro e w' ⟨rfl, rfl⟩) | (refine wl_maxI rfl _ _ rfl (c0 : Int) (c1 : Int) (g1 : Int) rfl rfl HMX.out ?_) | (go_at_call 71; refine ls.mono ?_; rintro e w' ⟨rfl, rfl⟩))
                go_roundw
                case rel => exact ⟨k + 1, k, x, true, k, by omega, by go_num, rfl, rfl, rfl, at_new HE.out, Z5, B5⟩
                case measure => simp [intOf]; omega
              · have HE : Hid (bestO V M l b (k + 1) = bestO V M l b k) := bestO_stay HY.out HA.out.2.2.symm (by rw [← HA.out.2.1]; exact hp)
                rw [decide_eq_false hp] at ls
                clear hp
                go_wp2_with (first | (go_at_call 70; refine cl.mono ?_; rintro e w' ⟨rfl, rfl⟩) | (refine wl_maxI rfl _ _ rfl (c0 : Int) (c1 : Int) (g1 : Int) rfl rfl HMX.out ?_) | (go_at_call 71; refine ls.mono ?_; rintro e w' ⟨rfl, rfl⟩))
                go_roundw
                case rel => exact ⟨k + 1, bi, bx, true, bi, by omega, by go_num, rfl, rfl, rfl, at_stay HE.out HA.out, Z5, B5⟩
                case measure => simp [intOf]; omega
    · have hlt' : ¬ (k : Int) < 104 := by omega
      have e104 : k = 104 := by omega
      subst e104
      have EB : Hid (bI R = bi) := by show _ = _; rw [HRR.out, HA.out.1]
      have EF : Hid (R.isSome = fb) := by show _ = _; rw [HRR.out, HA.out.2.2]
      have E0 : Hid (fb = false → bi = 0) := fun h => by rw [HA.out.1]; have := HA.out.2.2; rw [h] at this; cases e : bestO V M l b 104 with | none => rfl | some p => rw [e] at this; cases this
      clear HRR HA
      cases fb with
      | false =>
        have hb0 := E0.out rfl
        subst hb0
        obtain rfl : vi = -1 := HVI.out
        go_wp2_with fail
        go_ret2
        exact ⟨by rw [EB.out, EF.out]; rfl, HB.out⟩
      | true =>
        obtain rfl : vi = (bi : Int) := HVI.out
        have hbi : ¬ (bi : Int) < 0 := by omega
        go_wp2_with fail
        go_ret2
        exact ⟨by rw [EB.out, EF.out]; rfl, HB.out⟩
end Go.Proofs.Ytpbinkmeldkehaa
namespace Go.Proofs.Ytpbinkmeldkehaa
open Go Go.RowKit
set_option maxRecDepth 20000

theorem wl_min7 {ops : Array Oper} {rest : List Oper} {o : Oper} {a : Act} {w : World} {Q : Exit → Act → World → Prop} (hgd : o.guard = none) (x y : Operand) (ho : o.op = .call { callee := .builtin .min, args := #[x, y], argTypes := #[3, 3] })
    (p q r : Int) (hx : a.eval x = .int .i64 p) (hy : a.eval y = .int .i64 q) (hr : r = min p q) (h : wpList Try.prog ops Q rest (a.put o.dst (.int .i64 r)) w) : wpList Try.prog ops Q (o :: rest) a w := by
  obtain ⟨dst, op, ty, pos, after, guard⟩ := o
  subst ho
  have hr : (execOp a.eval ⟨dst, .call { callee := .builtin .min, args := #[x, y], argTypes := #[3, 3] }, ty, pos, after, guard⟩).run Try.prog w = .ok (.value (.int .i64 r)) w := by
    subst hr
    by_cases h1 : p ≤ q
    · rw [show min p q = p by omega]
      unfold execOp
      simp [resolve, invoke, builtin, hx, hy, Builtin.min_, Builtin.min2]
      all_goals omega
    · rw [show min p q = q by omega]
      unfold execOp
      simp [resolve, invoke, builtin, hx, hy, Builtin.min_, Builtin.min2]
      all_goals omega
  refine wpList_plain hgd fun K hK => ?_
  unfold Oper.wp
  rw [hr]
  exact hK _ _ h

theorem GSl.take7 {α : Type} {E : El} {enc : α → Array Value} {w : World} {o : Option Addr} {n cap : Nat} {C : List α} (h : GSl E enc w (.slice o n cap) C) {k : Nat} (hk : k ≤ n) : GSl E enc w (.slice o k cap) (C.take k) := by
  obtain ⟨o', cap', h1, h2, h3, h4⟩ := h
  simp only [Value.slice.injEq] at h1
  obtain ⟨rfl, rfl, rfl⟩ := h1
  have hl : (C.take k).length = k := by rw [List.length_take]; omega
  refine ⟨o, cap, by rw [hl], by rw [hl]; omega, h3, fun i hi => ?_⟩
  rw [hl] at hi
  obtain ⟨g, off, cur, t, fr, e1, e2, e3⟩ := h4 i (by omega)
  refine ⟨g, off, cur, t, fr, e1, e2, fun j hj => ?_⟩
  rw [List.getElem_take]
  exact e3 j hj
end Go.Proofs.Ytpbinkmeldkehaa
namespace Go.Proofs.Ytpbinkmeldkehaa
open Go Go.RowKit
set_option maxRecDepth 20000

/-! What the laws share: a list cut to its first 24 rules. -/
theorem slice_rules12 {o : Option Addr} {n0 cap : Nat} {w : World} {l : List RuleM} (h : RulesAt w (.slice o n0 cap) l) (n : Nat) (hn : n ≤ n0) (hc : n0 ≤ cap) (W : World) :
    (Instr.sliceAt 27 (.slice o n0 cap) none (some (.int .i64 (n : Int))) none).run Try.prog W = .ok (.slice o n cap) W := by
  rcases Nat.eq_zero_or_pos n0 with h0 | h0
  · obtain rfl : n = 0 := by omega
    cases o with
    | none => simp [go_sem, Try.underlying27]
    | some a => simp [go_sem, Try.underlying27]
  · obtain ⟨g, off, _, _, _, _, rfl, _⟩ := h.at 0 h0
    simp [go_sem, Try.underlying27]
    omega
theorem look_ok12 {l : List RuleM} (h : ∀ r ∈ l, okR8 r) (H : List Int) : okR8 (lookT l H).1 := by
  unfold lookT
  cases hf : l.find? (hasR H) with
  | none => exact rule0_ok
  | some r => exact h r (List.mem_of_find?_eq_some hf)
structure Cut24 (w : World) (o : Option Addr) (n0 n cap : Nat) (l : List RuleM) : Prop where
  cap1 : n0 ≤ cap
  cap2 : cap ≤ maxLen
  le : n ≤ n0
  min : (n : Int) = min (n0 : Int) 24
  len : l.length = n
  ok : ∀ r ∈ l, okR8 r
  at_ : RulesAt w (.slice o n cap) l
  slice : ∀ W, (Instr.sliceAt 27 (.slice o n0 cap) none (some (.int .i64 (n : Int))) none).run Try.prog W = .ok (.slice o n cap) W
theorem cut24 {w : World} {vl : Value} {l0 : List RuleM} (hok0 : ∀ r ∈ l0, okR8 r) (hl0 : RulesAt w vl l0) : ∃ o n0 n cap l, vl = .slice o n0 cap ∧ Cut24 w o n0 n cap l := by
  obtain ⟨o, cap, rfl, hc1, hc2⟩ := GSl.slice hl0
  refine ⟨o, l0.length, min l0.length 24, cap, l0.take (min l0.length 24), rfl, hc1, hc2, Nat.min_le_left _ _, by omega, by rw [List.length_take]; omega, fun r hr => hok0 r (List.mem_of_mem_take hr), GSl.take7 hl0 (Nat.min_le_left _ _), slice_rules12 hl0 _ (Nat.min_le_left _ _) hc1⟩
end Go.Proofs.Ytpbinkmeldkehaa
