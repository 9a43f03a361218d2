import Derived.Test.YtbhnjhiecoapbaaJ22
import Derived.Test.YtbhnjhiecoapbaaJ10
import Derived.Test.YtbhnjhiecoapbaaJ16
namespace Go.Proofs.Ytbhnjhiecoapbaa
open Go Go.RowKit
set_option maxRecDepth 20000

/-- A drawn region whose last operation waits for all others, one of which (m) may change what lies in memory, while all others make memory at most. -/
theorem region_mid2 {P : Program} {id : Nat} {Q : Exit → Act → World → Prop} {a0 : Act} {w0 : World} {lo : List Oper} (n m : Nat) (V : Nat → Value → World → Prop) (I : Bool → World → Prop) (D : List Nat) (hm : P.follows .mixedOrders = true) (hmn : m < n)
    (hn : lo.length = n + 1) (hD : (lo.filterMap (·.dst)) = D) (D0 : List Nat) (hD0 : ((lo.take n).filterMap (·.dst)) = D0) (hnd : D.Nodup) (hsz : ∀ d ∈ D, d < a0.tmps.size) (hdag : (lo.zipIdx.all fun x => x.1.after.all fun e => decide (e.on < x.2)) = true)
    (hlast : (lo[n]?).map (fun o => (List.range n).all fun j => o.after.any fun e => e.on == j && Region.binds .any e) = some true)
    (hV : ∀ j v w w', V j v w → Below w.heap.size w w' → V j v w') (hI : ∀ b w w', I b w → Below w.heap.size w w' → I b w') (hI0 : I false w0.drew)
    (hop : ∀ i o, lo[i]? = some o → i < n → i ≠ m → ∀ b a w, AtM lo.toArray V D0 I b a0 o a w → wpOp P lo.toArray Q i (fun a' w' => ∃ v, a' = a.put o.dst v ∧ Below w.heap.size w w' ∧ ∀ d, o.dst = some d → V i v w') a w)
    (hmid : ∀ o, lo[m]? = some o → ∀ a w, AtM lo.toArray V D0 I false a0 o a w → wpOp P lo.toArray Q m (fun a' w' => ∃ v, a' = a.put o.dst v ∧ I true w' ∧ (∀ j u, j ≠ m → V j u w → V j u w') ∧ ∀ d, o.dst = some d → V m v w') a w)
    (hend : ∀ a w, I true w → a.tmps.size = a0.tmps.size → a.defers = a0.defers → (∀ d, d ∉ D0 → a.eval (.tmp d) = a0.eval (.tmp d)) → (∀ j o d, j < n → lo[j]? = some o → o.dst = some d → V j (a.eval (.tmp d)) w) → wpOp P lo.toArray Q n (fun a' w' => Q .normal a' w') a w) : (Code.region id lo.toArray true).wp P Q a0 w0 := by
  refine wp_region_any hm ?_
  have hdag' : ∀ (i : Nat) (o : Oper), lo.toArray[i]? = some o → ∀ e ∈ o.after, e.on < i := fun i o ho e he => by
    rw [List.all_eq_true] at hdag
    have ho' : lo[i]? = some o := by simpa using ho
    obtain ⟨hi, rfl⟩ := List.getElem?_eq_some_iff.1 ho'
    have := hdag (lo[i], i) (List.mem_zipIdx_iff_getElem?.2 (List.getElem?_eq_getElem hi))
    simp only [Array.all_eq_true_iff_forall_mem] at this
    simpa using this e he
  have hnd' := hnd
  have hDa : (lo.toArray.toList.filterMap (·.dst)) = D := by simpa using hD
  have inD : ∀ (i : Nat) (o : Oper) (d : Nat), lo.toArray[i]? = some o → o.dst = some d → d ∈ D := fun i o d ho hd => by
    rw [← hD, List.mem_filterMap]
    exact ⟨o, List.mem_of_getElem? (by simpa using ho), hd⟩
  have inD0 : ∀ (i : Nat) (o : Oper) (d : Nat), i < n → lo.toArray[i]? = some o → o.dst = some d → d ∈ D0 := fun i o d hi ho hd => by
    rw [← hD0, List.mem_filterMap]
    refine ⟨o, List.mem_of_getElem? (i := i) ?_, hd⟩
    rw [List.getElem?_take_of_lt hi]
    simpa using ho
  have key : ∀ (f : Nat) (listed : Array Bool) (a : Act) (w : World), listed.toList.count false = f → listed.size = n + 1 → listed.getD n true = false → InvM lo.toArray V D0 I m a0 listed a w → wpAny P .any lo.toArray Q f listed a w := by
    intro f
    induction f with
    | zero =>
      intro listed a w hc hs hln inv
      exfalso
      have : false ∈ listed.toList := by
        rw [Array.getD_eq_getD_getElem?, Array.getElem?_eq_getElem (by omega)] at hln
        have h3 : listed[n]'(by omega) = false := by simpa using hln
        rw [← h3]; exact Array.mem_toList_iff.2 (Array.getElem_mem (by omega))
      have := List.count_pos_iff.2 this
      omega
    | succ f ih =>
      intro listed a w hc hs hln inv
      refine ⟨fun hr => absurd hr (ready_some (by simpa [hn] using hs) hdag' n hln), fun i hi => ?_⟩
      obtain ⟨hiu, o, ho, hdeps⟩ := mem_ready.1 hi
      have hil : i < listed.size := by
        rw [Array.getD_eq_getD_getElem?] at hiu
        rcases Nat.lt_or_ge i listed.size with h1 | h1
        · exact h1
        · rw [Array.getElem?_eq_none h1] at hiu; simp at hiu
      have hcnt := falses_set listed i hiu
      by_cases hin : i = n
      · subst hin
        have hol : lo[i]? = some o := by simpa using ho
        have hall : ∀ j, j < i → listed.getD j false = true := fun j hj => by
          rw [hol] at hlast
          simp only [Option.map_some, Option.some.injEq, List.all_eq_true, List.mem_range] at hlast
          have := hlast j hj
          rw [Array.any_eq_true'] at this
          obtain ⟨e, he, hb⟩ := this
          simp only [Bool.and_eq_true, beq_iff_eq] at hb
          rw [← hb.1]
          exact hdeps e he hb.2
        refine wpOp_mono (fun a' w' hQ => ?_) (hend a w (by have := inv.wld; rwa [hall m hmn] at this) inv.size inv.defers inv.other (fun j oj d hj hoj hd => inv.has j oj d (by simpa using hoj) hd (hall j hj)))
        have h0 : (listed.setIfInBounds i true).toList.count false = 0 := by
          rw [List.count_eq_zero]
          intro hmem
          obtain ⟨j, hj, hje⟩ := List.mem_iff_getElem.1 hmem
          rw [Array.getElem_toList] at hje
          have hj' : j < listed.size := by simpa using hj
          by_cases hji : i = j
          · subst hji
            rw [Array.getElem_setIfInBounds_self] at hje
            simp at hje
          · rw [Array.getElem_setIfInBounds_ne hj' hji] at hje
            have := hall j (by omega)
            rw [Array.getD_eq_getD_getElem?, Array.getElem?_eq_getElem hj'] at this
            simp [hje] at this
        obtain rfl : f = 0 := by omega
        exact ⟨ready_none h0, hQ⟩
      · have hlt : i < n := by omega
        have hol : lo[i]? = some o := by simpa using ho
        by_cases him : i = m
        · subst him
          have hno : listed.getD i false = false := getD_tf hiu
          refine wpOp_mono (fun a' w' hK => ?_) (hmid o hol a w ⟨by have := inv.wld; rwa [hno] at this, inv.size, inv.defers, inv.other, fun e he hb oj d hoj hd => inv.has e.on oj d hoj hd (hdeps e he hb)⟩)
          obtain ⟨v, rfl, hIw, hst, hv⟩ := hK
          have hset : (listed.setIfInBounds i true).getD i false = true := by
            rw [Array.getD_eq_getD_getElem?, Array.getElem?_setIfInBounds_self_of_lt hil]; rfl
          refine ih _ _ _ (by omega) (by simpa using hs) (by rw [getD_set_ne' hin]; exact hln) ⟨by rw [hset]; exact hIw, by rw [size_put]; exact inv.size, ?_, fun d hd => ?_, fun j oj d hoj hd hlj => ?_⟩
          · have : (a.put o.dst v).defers = a.defers := by cases o.dst <;> rfl
            rw [this]; exact inv.defers
          · cases hdo : o.dst with
            | none => exact inv.other d hd
            | some k =>
              rw [eval_put _ _ _ _ (by rw [inv.size]; exact hsz k (inD i o k ho hdo)), if_neg (fun h : d = k => hd (by rw [h]; exact inD0 i o k hlt ho hdo))]
              exact inv.other d hd
          · by_cases hji : j = i
            · subst hji
              obtain rfl : oj = o := Option.some.inj (hoj.symm.trans ho)
              rw [hd, eval_put _ _ _ _ (by rw [inv.size]; exact hsz d (inD j oj d ho hd)), if_pos rfl]
              exact hv d hd
            · rw [getD_set_ne' (Ne.symm hji)] at hlj
              have h1 := hst _ _ hji (inv.has j oj d hoj hd hlj)
              cases hdo : o.dst with
              | none => exact h1
              | some k =>
                have hkd : ¬ d = k := fun h => hji (dst_apart hDa hnd' hoj ho hd (by rw [h]; exact hdo))
                rw [eval_put _ _ _ _ (by rw [inv.size]; exact hsz k (inD i o k ho hdo)), if_neg hkd]
                exact h1
        · refine wpOp_mono (fun a' w' hK => ?_) (hop i o hol hlt him (listed.getD m false) a w ⟨inv.wld, inv.size, inv.defers, inv.other, fun e he hb oj d hoj hd => inv.has e.on oj d hoj hd (hdeps e he hb)⟩)
          obtain ⟨v, rfl, hbw, hv⟩ := hK
          refine ih _ _ _ (by omega) (by simpa using hs) (by rw [getD_set_ne' hin]; exact hln) ⟨by rw [getD_set_ne' him]; exact hI _ _ _ inv.wld hbw, by rw [size_put]; exact inv.size, ?_, fun d hd => ?_, fun j oj d hoj hd hlj => ?_⟩
          · have : (a.put o.dst v).defers = a.defers := by cases o.dst <;> rfl
            rw [this]; exact inv.defers
          · cases hdo : o.dst with
            | none => exact inv.other d hd
            | some k =>
              rw [eval_put _ _ _ _ (by rw [inv.size]; exact hsz k (inD i o k ho hdo)), if_neg (fun h : d = k => hd (by rw [h]; exact inD0 i o k hlt ho hdo))]
              exact inv.other d hd
          · by_cases hji : j = i
            · subst hji
              obtain rfl : oj = o := Option.some.inj (hoj.symm.trans ho)
              rw [hd, eval_put _ _ _ _ (by rw [inv.size]; exact hsz d (inD j oj d ho hd)), if_pos rfl]
              exact hv d hd
            · rw [getD_set_ne' (Ne.symm hji)] at hlj
              have h1 := (fun h => hV _ _ _ _ h hbw) (inv.has j oj d hoj hd hlj)
              cases hdo : o.dst with
              | none => exact h1
              | some k =>
                have hkd : ¬ d = k := fun h => hji (dst_apart hDa hnd' hoj ho hd (by rw [h]; exact hdo))
                rw [eval_put _ _ _ _ (by rw [inv.size]; exact hsz k (inD i o k ho hdo)), if_neg hkd]
                exact h1
  have hrep : (Array.replicate lo.toArray.size false).toList.count false = lo.toArray.size := by simp
  refine key _ _ _ _ hrep (by simp [hn]) ?_ ⟨?_, rfl, rfl, fun _ _ => rfl, fun j o d _ _ hl => ?_⟩
  · rw [Array.getD_eq_getD_getElem?, Array.getElem?_eq_getElem (by simp [hn])]
    simp
  · rw [Array.getD_eq_getD_getElem?, Array.getElem?_eq_getElem (by simp [hn]; omega)]
    simpa using hI0
  · exfalso
    rw [Array.getD_eq_getD_getElem?] at hl
    rcases Nat.lt_or_ge j (Array.replicate lo.toArray.size false).size with h1 | h1
    · rw [Array.getElem?_eq_getElem h1] at hl; simp at hl
    · rw [Array.getElem?_eq_none h1] at hl; simp at hl
end Go.Proofs.Ytbhnjhiecoapbaa
namespace Go.Proofs.Ytbhnjhiecoapbaa
open Go Go.RowKit
set_option maxRecDepth 20000

theorem clash_at (V M V' M' : List Int) (k : Nat) : (atI V M k + atI V' M' k == 1) = (bt M k && bt M' k && (bt V k != bt V' k)) := by
  unfold atI; cases bt M k <;> cases bt V k <;> cases bt M' k <;> cases bt V' k <;> rfl
theorem min_ne2 (V M V' M' : List Int) (k : Nat) : ((if atI V' M' k < atI V M k then atI V' M' k else atI V M k) != 2) = (bt M k || bt M' k) := by
  unfold atI; cases bt M k <;> cases bt V k <;> cases bt M' k <;> cases bt V' k <;> rfl
theorem min_eq1 (V M V' M' : List Int) (k : Nat) (h : (bt M k && bt M' k && (bt V k != bt V' k)) = false) : ((if atI V' M' k < atI V M k then atI V' M' k else atI V M k) == 1) = ((bt V k && bt M k) || (bt V' k && bt M' k)) := by
  revert h; unfold atI; cases bt M k <;> cases bt V k <;> cases bt M' k <;> cases bt V' k <;> decide

set_option maxHeartbeats 4000000 in
theorem rmeet_any (V M V' M' : List Int) (hV : Byt V) (hM : Byt M) (hV' : Byt V') (hM' : Byt M') (w : World) :
    Calls Try.prog 45 #[.agg (cv V M), .agg (cv V' M')] w fun e w' => e = .returned (meetR V M V' M') ∧ Below w.heap.size w w' := by
  have hVl := hV.1
  have hMl := hM.1
  have hVl' := hV'.1
  have hMl' := hM'.1
  have hzl := Z_byt.1
  obtain ⟨fV, hfV⟩ : ∃ f : Nat → Bool, f = fun i => (bt V i && bt M i) || (bt V' i && bt M' i) := ⟨_, rfl⟩
  obtain ⟨fM, hfM⟩ : ∃ f : Nat → Bool, f = fun i => bt M i || bt M' i := ⟨_, rfl⟩
  have CA : Hid (∀ k : Nat, k < 104 → ∀ W, Calls Try.prog 30 #[.agg (cv V M), .int .i64 (k : Int)] W fun e w' => e = .returned (.int .i64 (atI V M k)) ∧ Below W.heap.size W w') := fun k hk => at_any V M hV hM k hk
  have CB : Hid (∀ k : Nat, k < 104 → ∀ W, Calls Try.prog 30 #[.agg (cv V' M'), .int .i64 (k : Int)] W fun e w' => e = .returned (.int .i64 (atI V' M' k)) ∧ Below W.heap.size W w') := fun k hk => at_any V' M' hV' hM' k hk
  have CS : Hid (∀ k : Nat, k < 104 → (bt M k && bt M' k && (bt V k != bt V' k)) = false → ∀ m, m = (if atI V' M' k < atI V M k then atI V' M' k else atI V M k) → ∀ W, Calls Try.prog 50 #[.agg (cv (upto k fV) (upto k fM)), .int .i64 (k : Int), .int .i64 m] W fun e w' => e = .returned (.agg (cv (upto (k + 1) fV) (upto (k + 1) fM))) ∧ Below W.heap.size W w') := fun k hk hc m hm => by
    have := rset_any _ _ (upto_byt k fV) (upto_byt k fM) k hk m
    rwa [show (m != 2) = fM k by rw [hm, min_ne2, hfM], show (m == 1) = fV k by rw [hm, min_eq1 _ _ _ _ _ hc, hfV], upto_succ, upto_succ] at this
  have HE : Hid (upto 104 fV = meetV V M V' M' ∧ upto 104 fM = meetM M M') := by
    show _ ∧ _
    rw [upto_all, upto_all, hfV, hfM]; exact ⟨rfl, rfl⟩
  clear hV hM hV' hM' hfV hfM
  have lV : ∀ k, (upto k fV).length = 13 := fun k => (upto_byt k fV).1
  have lM : ∀ k, (upto k fM).length = 13 := fun k => (upto_byt k fM).1
  go_enter Try.func45, Try.ntmps45
  go_wp2_with (first
    | (refine wl_zeroC rfl rfl ?_)
    | (refine wl_storeC rfl _ _ rfl (w.heap.size + 3) Z Z rfl rfl _ (heap_new _ _ _ (by simp)) rfl hzl hzl _ (setRow_new _ _ _ _ _ (by simp)) ?_))
  go_loopw [7] (fun i wr => ∃ k : Nat, k ≤ 104 ∧ i = .int .i64 k ∧ (∀ j, j < k → (bt M j && bt M' j && (bt V j != bt V' j)) = false) ∧ wr.heap[w.heap.size]? = some (.cells (cv V M) 26 (0, 0)) ∧ wr.heap[w.heap.size + 1]? = some (.cells (cv V' M') 26 (0, 0)) ∧ wr.heap[w.heap.size + 2]? = some (.cells zeroC 26 (0, 0)) ∧ wr.heap[w.heap.size + 3]? = some (.cells (cv (upto k fV) (upto k fM)) 26 (0, 0)) ∧ Below w.heap.size w wr) (fun i _ => 104 - (intOf i).toNat)
  case atStart => exact ⟨0, Nat.zero_le _, rfl, fun j hj => by omega, heap_past _ _ _ _ (heap_past _ _ _ _ (heap_past _ _ _ _ (heap_new _ _ _ rfl))), heap_past _ _ _ _ (heap_past _ _ _ _ (heap_new _ _ _ (by simp))), heap_past _ _ _ _ (heap_new _ _ _ (by simp)), by rw [upto_zero, upto_zero]; exact heap_new _ _ _ (by simp), ((((Below.refl _ _).alloc (Nat.le_refl _) _).alloc (by simp) _).alloc (by simp; omega) _).alloc (by simp; omega) _⟩
  case round =>
    obtain ⟨k, hk, rfl, hno, g0, g1, g2, g3, hb⟩ := hrel
    have l1 := lV k
    have l2 := lM k
    have l3 := lV (k + 1)
    have l4 := lM (k + 1)
    have HNO : Hid (∀ j, j < k → (bt M j && bt M' j && (bt V j != bt V' j)) = false) := hno
    have hz := (Array.getElem?_eq_some_iff.1 g3).1
    clear hno
    by_cases hlt : k < 104
    · go_wp2_with (first
        | (refine wl_loadC rfl _ rfl w.heap.size rfl V M g0 hVl hMl ?_))
      refine (CA.out k hlt _).mono ?_
      rintro e w1 ⟨rfl, hb1⟩
      have k0 : w1.heap[w.heap.size]? = some (.cells (cv V M) 26 (0, 0)) := by rw [hb1.block _ (by omega)]; exact g0
      have k1 : w1.heap[w.heap.size + 1]? = some (.cells (cv V' M') 26 (0, 0)) := by rw [hb1.block _ (by omega)]; exact g1
      have k2 : w1.heap[w.heap.size + 2]? = some (.cells zeroC 26 (0, 0)) := by rw [hb1.block _ (by omega)]; exact g2
      have k3 : w1.heap[w.heap.size + 3]? = some (.cells (cv (upto k fV) (upto k fM)) 26 (0, 0)) := by rw [hb1.block _ (by omega)]; exact g3
      have B1 := hb.trans (hb1.mono hb.size)
      have hz1 := Nat.lt_of_lt_of_le hz hb1.size
      clear g0 g1 g2 g3 hb hb1 hz
      go_wp2_with (first
        | (refine wl_loadC rfl _ rfl (w.heap.size + 1) rfl V' M' k1 hVl' hMl' ?_))
      refine (CB.out k hlt _).mono ?_
      rintro e w2 ⟨rfl, hb2⟩
      have m0 : w2.heap[w.heap.size]? = some (.cells (cv V M) 26 (0, 0)) := by rw [hb2.block _ (by omega)]; exact k0
      have m1 : w2.heap[w.heap.size + 1]? = some (.cells (cv V' M') 26 (0, 0)) := by rw [hb2.block _ (by omega)]; exact k1
      have m2 : w2.heap[w.heap.size + 2]? = some (.cells zeroC 26 (0, 0)) := by rw [hb2.block _ (by omega)]; exact k2
      have m3 : w2.heap[w.heap.size + 3]? = some (.cells (cv (upto k fV) (upto k fM)) 26 (0, 0)) := by rw [hb2.block _ (by omega)]; exact k3
      have B2 := B1.trans (hb2.mono B1.size)
      have hz2 := Nat.lt_of_lt_of_le hz1 hb2.size
      clear k0 k1 k2 k3 B1 hb2 hz1
      obtain ⟨x, hx⟩ : ∃ x, x = atI V M k := ⟨_, rfl⟩
      obtain ⟨y, hy⟩ : ∃ y, y = atI V' M' k := ⟨_, rfl⟩
      have hxb : 0 ≤ x ∧ x ≤ 2 := by rw [hx]; rcases at_cases V M k with h | h | h <;> rw [h] <;> decide
      have hyb : 0 ≤ y ∧ y ≤ 2 := by rw [hy]; rcases at_cases V' M' k with h | h | h <;> rw [h] <;> decide
      have hcl := clash_at V M V' M' k
      rw [← hx, ← hy] at hcl ⊢
      obtain ⟨hx0, hx2⟩ := hxb
      obtain ⟨hy0, hy2⟩ := hyb
      have HX : Hid (x = atI V M k) := hx
      have HY : Hid (y = atI V' M' k) := hy
      clear hx hy
      by_cases hc : (bt M k && bt M' k && (bt V k != bt V' k)) = true
      · have hxy : (x + y == 1) = true := by rw [hcl, hc]
        have HC : Hid ((bt M k && bt M' k && (bt V k != bt V' k)) = true) := hc
        clear hcl hc
        go_wp2_with (first
          | (refine wl_zeroC rfl rfl ?_)
          | (refine wl_storeC rfl _ _ rfl (w.heap.size + 2) Z Z rfl rfl _ m2 rfl hzl hzl _ rfl ?_))
        refine retCe (p := 4) (u := 5) rfl rfl (w.heap.size + 2) rfl Z Z hzl hzl (setRow_heap _ _ _ _ _ _ m2) _ rfl ⟨?_, below_setRow B2 (by omega) _⟩
        have hme : meets V M V' M' = false := by
          cases e : meets V M V' M'
          · rfl
          · have h3 := HC.out
            simp only [Bool.and_eq_true] at h3
            rw [(meets_iff V M V' M').1 e k hlt h3.1.1 h3.1.2] at h3
            simp at h3
        rw [meetR_no _ _ _ _ hme]; rfl
      · have hc' : (bt M k && bt M' k && (bt V k != bt V' k)) = false := by simpa using hc
        have hxy : (x + y == 1) = false := by rw [hcl, hc']
        have HC : Hid ((bt M k && bt M' k && (bt V k != bt V' k)) = false) := hc'
        clear hcl hc hc'
        by_cases hmin : y < x
        · have D : Hid (∀ W, Calls Try.prog 50 #[.agg (cv (upto k fV) (upto k fM)), .int .i64 (k : Int), .int .i64 y] W fun e w' => e = .returned (.agg (cv (upto (k + 1) fV) (upto (k + 1) fM))) ∧ Below W.heap.size W w') := CS.out k hlt HC.out y (by rw [← HX.out, ← HY.out, if_pos hmin])
          have hmin2 : ¬ x ≤ y := by omega
          have HMN : Hid (y = min x y) := by show _ = _; omega
          go_wp2_with (first
            | (refine wl_minI rfl _ _ rfl x y y rfl rfl HMN.out ?_)
            | (refine wl_loadC rfl _ rfl (w.heap.size + 3) rfl (upto k fV) (upto k fM) m3 l1 l2 ?_))
          refine (D.out _).mono ?_
          rintro e w3 ⟨rfl, hb3⟩
          have p0 : w3.heap[w.heap.size]? = some (.cells (cv V M) 26 (0, 0)) := by rw [hb3.block _ (by omega)]; exact m0
          have p1 : w3.heap[w.heap.size + 1]? = some (.cells (cv V' M') 26 (0, 0)) := by rw [hb3.block _ (by omega)]; exact m1
          have p2 : w3.heap[w.heap.size + 2]? = some (.cells zeroC 26 (0, 0)) := by rw [hb3.block _ (by omega)]; exact m2
          have p3 : w3.heap[w.heap.size + 3]? = some (.cells (cv (upto k fV) (upto k fM)) 26 (0, 0)) := by rw [hb3.block _ (by omega)]; exact m3
          have B3 := B2.trans (hb3.mono B2.size)
          clear m0 m1 m2 m3 B2 hb3 hz2 D
          go_wp2_with (first
            | (refine wl_storeC rfl _ _ rfl (w.heap.size + 3) (upto (k + 1) fV) (upto (k + 1) fM) rfl rfl _ p3 (cv_size _ _ l1 l2) l3 l4 _ rfl ?_))
          go_roundw
          case rel =>
            refine ⟨k + 1, by omega, by go_num, fun j hj => ?_, (setRow_other _ _ _ _ (by omega)).trans p0, (setRow_other _ _ _ _ (by omega)).trans p1, (setRow_other _ _ _ _ (by omega)).trans p2, setRow_heap _ _ _ _ _ _ p3, below_setRow B3 (by omega) _⟩
            by_cases e : j = k
            · subst e; exact HC.out
            · exact HNO.out j (by omega)
          case measure => simp [intOf]; omega
        · have D : Hid (∀ W, Calls Try.prog 50 #[.agg (cv (upto k fV) (upto k fM)), .int .i64 (k : Int), .int .i64 x] W fun e w' => e = .returned (.agg (cv (upto (k + 1) fV) (upto (k + 1) fM))) ∧ Below W.heap.size W w') := CS.out k hlt HC.out x (by rw [← HX.out, ← HY.out, if_neg hmin])
          have hmin2 : x ≤ y := by omega
          have HMN : Hid (x = min x y) := by show _ = _; omega
          go_wp2_with (first
            | (refine wl_minI rfl _ _ rfl x y x rfl rfl HMN.out ?_)
            | (refine wl_loadC rfl _ rfl (w.heap.size + 3) rfl (upto k fV) (upto k fM) m3 l1 l2 ?_))
          refine (D.out _).mono ?_
          rintro e w3 ⟨rfl, hb3⟩
          have p0 : w3.heap[w.heap.size]? = some (.cells (cv V M) 26 (0, 0)) := by rw [hb3.block _ (by omega)]; exact m0
          have p1 : w3.heap[w.heap.size + 1]? = some (.cells (cv V' M') 26 (0, 0)) := by rw [hb3.block _ (by omega)]; exact m1
          have p2 : w3.heap[w.heap.size + 2]? = some (.cells zeroC 26 (0, 0)) := by rw [hb3.block _ (by omega)]; exact m2
          have p3 : w3.heap[w.heap.size + 3]? = some (.cells (cv (upto k fV) (upto k fM)) 26 (0, 0)) := by rw [hb3.block _ (by omega)]; exact m3
          have B3 := B2.trans (hb3.mono B2.size)
          clear m0 m1 m2 m3 B2 hb3 hz2 D
          go_wp2_with (first
            | (refine wl_storeC rfl _ _ rfl (w.heap.size + 3) (upto (k + 1) fV) (upto (k + 1) fM) rfl rfl _ p3 (cv_size _ _ l1 l2) l3 l4 _ rfl ?_))
          go_roundw
          case rel =>
            refine ⟨k + 1, by omega, by go_num, fun j hj => ?_, (setRow_other _ _ _ _ (by omega)).trans p0, (setRow_other _ _ _ _ (by omega)).trans p1, (setRow_other _ _ _ _ (by omega)).trans p2, setRow_heap _ _ _ _ _ _ p3, below_setRow B3 (by omega) _⟩
            by_cases e : j = k
            · subst e; exact HC.out
            · exact HNO.out j (by omega)
          case measure => simp [intOf]; omega
    · obtain rfl : k = 104 := by omega
      rw [HE.out.1, HE.out.2] at g3
      have hAl := (meetV_byt V M V' M').1
      have hBl := (meetM_byt M M').1
      have hme : meets V M V' M' = true := (meets_iff _ _ _ _).2 fun i hi h1 h2 => by
        have := HNO.out i hi
        rw [h1, h2] at this
        simpa using this
      go_wp2_with (first
        | (refine wl_loadC rfl _ rfl (w.heap.size + 3) rfl (meetV V M V' M') (meetM M M') g3 hAl hBl ?_)
        | (refine wl_storeC rfl _ _ rfl (w.heap.size + 2) (meetV V M V' M') (meetM M M') rfl rfl _ g2 rfl hAl hBl _ rfl ?_))
      refine retCe (p := 4) (u := 5) rfl rfl (w.heap.size + 2) rfl _ _ hAl hBl (setRow_heap _ _ _ _ _ _ g2) _ rfl ⟨?_, below_setRow hb (by omega) _⟩
      rw [meetR_yes _ _ _ _ hme]; rfl
end Go.Proofs.Ytbhnjhiecoapbaa
namespace Go.Proofs.Ytbhnjhiecoapbaa
open Go Go.Lib Go.RowKit Ieee
set_option maxRecDepth 20000

/-! The reference's Meeting. -/
def mp_ops : List Oper := [
  { dst := some 33, op := .move (.tmp 5), type := 22, pos := "ref.go:17", after := #[], guard := none },
  { dst := some 34, op := .move (.tmp 0), type := 22, pos := "ref.go:17", after := #[], guard := none },
  { dst := some 35, op := .move (.tmp 6), type := 3, pos := "ref.go:17", after := #[], guard := none },
  { dst := some 36, op := .indexAddr 22 (.tmp 34) (.tmp 35), type := 0, pos := "ref.go:17", after := #[{ on := 1, ground := .data }, { on := 2, ground := .data }], guard := none },
  { dst := some 37, op := .fieldAddr 30 (.tmp 36) 0, type := 0, pos := "ref.go:17", after := #[{ on := 3, ground := .data }], guard := none },
  { dst := some 38, op := .load 3 (.tmp 37), type := 3, pos := "ref.go:17", after := #[{ on := 4, ground := .data }], guard := none },
  { dst := some 39, op := .load 26 (.tmp 7), type := 26, pos := "ref.go:17", after := #[], guard := none },
  { dst := some 40, op := .move (.tmp 0), type := 22, pos := "ref.go:17", after := #[], guard := none },
  { dst := some 41, op := .move (.tmp 6), type := 3, pos := "ref.go:17", after := #[], guard := none },
  { dst := some 42, op := .indexAddr 22 (.tmp 40) (.tmp 41), type := 0, pos := "ref.go:17", after := #[{ on := 7, ground := .data }, { on := 8, ground := .data }], guard := none },
  { dst := some 43, op := .fieldAddr 30 (.tmp 42) 2, type := 0, pos := "ref.go:17", after := #[{ on := 9, ground := .data }], guard := none },
  { dst := some 44, op := .load 3 (.tmp 43), type := 3, pos := "ref.go:17", after := #[{ on := 10, ground := .data }], guard := none },
  { dst := some 45, op := .build 30 #[(0, .tmp 38), (1, .tmp 39), (2, .tmp 44)], type := 30, pos := "ref.go:17", after := #[{ on := 5, ground := .data }, { on := 6, ground := .data }, { on := 11, ground := .data }], guard := none },
  { dst := some 46, op := .buildSlice 22 1 #[(0, .tmp 45)], type := 22, pos := "ref.go:17", after := #[{ on := 12, ground := .data }], guard := none },
  { dst := some 47, op := .call { callee := .builtin .append, args := #[.tmp 33, .tmp 46], argTypes := #[22, 22] }, type := 22, pos := "ref.go:17", after := #[{ on := 0, ground := .data }, { on := 13, ground := .data }], guard := none },
  { dst := some 5, op := .assign (.tmp 47), type := 22, pos := "ref.go:17", after := #[{ on := 14, ground := .data }, { on := 14, ground := .chain }, { on := 0, ground := .phase }, { on := 1, ground := .phase }, { on := 2, ground := .phase }, { on := 3, ground := .phase }, { on := 4, ground := .phase }, { on := 5, ground := .phase }, { on := 6, ground := .phase }, { on := 7, ground := .phase }, { on := 8, ground := .phase }, { on := 9, ground := .phase }, { on := 10, ground := .phase }, { on := 11, ground := .phase }, { on := 12, ground := .phase }, { on := 13, ground := .phase }, { on := 14, ground := .phase }], guard := none }]
def mp_D : List Nat := [33, 34, 35, 36, 37, 38, 39, 40, 41, 42, 43, 44, 45, 46, 47, 5]
def mp_D0 : List Nat := [33, 34, 35, 36, 37, 38, 39, 40, 41, 42, 43, 44, 45, 46, 47]
theorem run_index12 {o : Oper} {t : Nat} {x y : Operand} (ho : o.op = .indexAddr t x y) (a : Act) (W : World) (u z v : Value) (hu : a.eval x = u) (hz : a.eval y = z) (h : (Instr.indexAt t u z).run Try.prog W = .ok v W) : (execOp a.eval o).run Try.prog W = .ok (.value v) W := by
  unfold execOp
  simp only [ho, Sem.run_bind, hu, hz, h, Result.andThen_ok, Sem.run_pure]
theorem load_int12 (W : World) (ad : Addr) (n : Int) (h : W.cell? ad = some (.int .i64 n)) : (Instr.loadAt 3 (.pointer (some ad))).run Try.prog W = .ok (.int .i64 n) W := by
  simp [go_sem, h]
abbrev mpR (ord : Int) (U N : List Int) (act : Int) : RuleM := { order := ord, cube := (U, N), action := act }
def mp_V (H B : Nat) (vv vl : Value) (k g off : Nat) (ord act : Int) (U N : List Int) (L : List RuleM) (i : Nat) (v : Value) (w : World) : Prop :=
  match i with
  | 0 => v = vv
  | 1 => v = vl
  | 2 => v = .int .i64 (k : Int)
  | 3 => v = .pointer (some ⟨g, off + k * 28, none⟩)
  | 4 => v = .pointer (some ⟨g, off + k * 28, none⟩)
  | 5 => v = .int .i64 ord
  | 6 => v = .agg (cv U N)
  | 7 => v = vl
  | 8 => v = .int .i64 (k : Int)
  | 9 => v = .pointer (some ⟨g, off + k * 28, none⟩)
  | 10 => v = .pointer (some ⟨g, off + k * 28 + 27, none⟩)
  | 11 => v = .int .i64 act
  | 12 => v = .agg (ruleV (mpR ord U N act))
  | 13 => ∃ gn, v = .slice (some ⟨gn, 0, none⟩) 1 1 ∧ H ≤ gn ∧ w.heap[gn]? = some (.cells (ruleV (mpR ord U N act)) 30 (0, 0))
  | 14 => w.ownsRow B 30 28 v (L ++ [(mpR ord U N act)]).length (gcells ruleV (L ++ [(mpR ord U N act)]))
  | _ => True
theorem mp_mono (H B : Nat) (vv vl : Value) (k g off : Nat) (ord act : Int) (U N : List Int) (L : List RuleM) : ∀ i v w w', mp_V H B vv vl k g off ord act U N L i v w → Below w.heap.size w w' → mp_V H B vv vl k g off ord act U N L i v w' := by
  intro i v w w' h hb
  revert h
  unfold mp_V
  split <;> intro h <;> first
    | exact h
    | exact gown_below h hb
    | (obtain ⟨gn, h1, h2, h3⟩ := h
       exact ⟨gn, h1, h2, (hb.block gn (Array.getElem?_eq_some_iff.1 h3).1).trans h3⟩)
structure MpI (B q g : Nat) (cq cg : Obj) (w00 w0 w : World) : Prop where
  two : w.heap[q]? = some cq
  one : w.heap[g]? = some cg
  below : Below B w00 w
  size : w0.heap.size ≤ w.heap.size
theorem MpI.stays {B q g : Nat} {cq cg : Obj} {w00 w0 w w' : World} (h : MpI B q g cq cg w00 w0 w) (hB : B ≤ w.heap.size) (hb : Below w.heap.size w w') : MpI B q g cq cg w00 w0 w' :=
  ⟨(hb.block _ (Array.getElem?_eq_some_iff.1 h.two).1).trans h.two, (hb.block _ (Array.getElem?_eq_some_iff.1 h.one).1).trans h.one, h.below.trans (hb.mono hB), Nat.le_trans h.size hb.size⟩
set_option maxHeartbeats 8000000 in
theorem mp_region {id : Nat} {Q : Exit → Act → World → Prop} {a0 : Act} {w0 w00 : World} (hs : 49 ≤ a0.tmps.size) (B : Nat) (oP : Option Addr) (nP cP : Nat) (k g off cR nR q : Nat) (U N : List Int) (hU : Byt U) (hN : Byt N) (ord act : Int) (L : List RuleM) (cur : Array Value) (t : TypeId) (fr : Nat × Nat)
    (h5 : a0.eval (.tmp 5) = .slice oP nP cP) (h0 : a0.eval (.tmp 0) = .slice (some ⟨g, off, none⟩) nR cR) (h6 : a0.eval (.tmp 6) = .int .i64 (k : Int)) (h7 : a0.eval (.tmp 7) = .pointer (some ⟨q, 0, none⟩)) (hk : k < nR)
    (hq : w0.heap[q]? = some (.cells (cv U N) 26 (0, 0))) (hg : w0.heap[g]? = some (.cells cur t fr)) (hc0 : cur[off + k * 28]? = some (.int .i64 ord)) (hc27 : cur[off + k * 28 + 27]? = some (.int .i64 act))
    (hown : w0.ownsRow B 30 28 (.slice oP nP cP) L.length (gcells ruleV L)) (hL : L.length ≤ 100000) (hB : B ≤ w0.heap.size) (h00 : Below B w00 w0)
    (hneq : (Value.slice oP nP cP).ownBlock ≠ some q) (hne : (Value.slice oP nP cP).ownBlock ≠ some g)
    (hK : ∀ y w' v', MpI B q g (.cells (cv U N) 26 (0, 0)) (.cells cur t fr) w00 w0 w' → w'.ownsRow B 30 28 v' (L ++ [(mpR ord U N act)]).length (gcells ruleV (L ++ [(mpR ord U N act)])) → Q .normal ((putsD mp_D0 y a0).put (some 5) v') w') : (Code.region id mp_ops.toArray true).wp Try.prog Q a0 w0 := by
  have hDs : ∀ d ∈ mp_D, d < a0.tmps.size := fun d hd => by
    have : d < 49 := by
      revert hd; unfold mp_D; intro hd
      simp only [List.mem_cons, List.not_mem_nil, or_false] at hd
      omega
    omega
  have hUl := hU.1
  have hNl := hN.1
  have K0 : MpI B q g (.cells (cv U N) 26 (0, 0)) (.cells cur t fr) w00 w0 w0 := ⟨hq, hg, h00, Nat.le_refl _⟩
  have HRK : okR8 (mpR ord U N act) := ⟨hU, hN⟩
  have hsz := ruleV_size HRK
  have frm : ∀ (b : Bool) (w : World), (if b then MpI B q g (.cells (cv U N) 26 (0, 0)) (.cells cur t fr) w00 w0 w else Below w0.heap.size w0 w) → MpI B q g (.cells (cv U N) 26 (0, 0)) (.cells cur t fr) w00 w0 w := fun b w h => by
    cases b with
    | true => exact h
    | false => exact K0.stays hB h
  refine region_mid2 15 14 (mp_V w0.heap.size B (.slice oP nP cP) (.slice (some ⟨g, off, none⟩) nR cR) k g off ord act U N L) (fun b w => if b then MpI B q g (.cells (cv U N) 26 (0, 0)) (.cells cur t fr) w00 w0 w else Below w0.heap.size w0 w) mp_D (by kernel_rfl) (by decide) rfl (by kernel_rfl) mp_D0 (by kernel_rfl) (by decide) hDs (by kernel_rfl) (by kernel_rfl) (mp_mono _ _ _ _ _ _ _ _ _ _ _ _) ?_ ?_ ?_ ?_ ?_
  · intro b w w' h hb
    cases b with
    | true => exact MpI.stays h (Nat.le_trans hB (MpI.size h)) hb
    | false => exact Below.trans h (hb.mono (Below.size h))
  · exact (Below.refl _ _).drew
  · intro i o ho hi him b a w h
    have kw := frm b w h.wld
    have e5 : a.eval (.tmp 5) = .slice oP nP cP := (h.other 5 (by decide)).trans h5
    have e0 : a.eval (.tmp 0) = .slice (some ⟨g, off, none⟩) nR cR := (h.other 0 (by decide)).trans h0
    have e6 : a.eval (.tmp 6) = .int .i64 (k : Int) := (h.other 6 (by decide)).trans h6
    have e7 : a.eval (.tmp 7) = .pointer (some ⟨q, 0, none⟩) := (h.other 7 (by decide)).trans h7
    have i1 : (Instr.indexAt 22 (.slice (some ⟨g, off, none⟩) nR cR) (.int .i64 (k : Int))).run Try.prog w = .ok (.pointer (some ⟨g, off + k * 28, none⟩)) w := by
      simp [go_sem, Try.underlying22]; omega
    have f0 : (Instr.fieldAt 30 (.pointer (some ⟨g, off + k * 28, none⟩)) 0).run Try.prog w = .ok (.pointer (some ⟨g, off + k * 28, none⟩)) w := by simp [go_sem]
    have f2 : (Instr.fieldAt 30 (.pointer (some ⟨g, off + k * 28, none⟩)) 2).run Try.prog w = .ok (.pointer (some ⟨g, off + k * 28 + 27, none⟩)) w := by simp [go_sem]
    have c0 : w.cell? ⟨g, off + k * 28, none⟩ = some (.int .i64 ord) := by rw [cell_of_row _ _ _ _ _ _ kw.one]; exact hc0
    have c27 : w.cell? ⟨g, off + k * 28 + 27, none⟩ = some (.int .i64 act) := by rw [cell_of_row _ _ _ _ _ _ kw.one]; exact hc27
    rcases (show i = 0 ∨ i = 1 ∨ i = 2 ∨ i = 3 ∨ i = 4 ∨ i = 5 ∨ i = 6 ∨ i = 7 ∨ i = 8 ∨ i = 9 ∨ i = 10 ∨ i = 11 ∨ i = 12 ∨ i = 13 by omega) with rfl | rfl | rfl | rfl | rfl | rfl | rfl | rfl | rfl | rfl | rfl | rfl | rfl | rfl
    · obtain rfl := Option.some.inj ho
      exact iv_val rfl rfl _ (run_moveOp rfl _ _ _ e5) rfl
    · obtain rfl := Option.some.inj ho
      exact iv_val rfl rfl _ (run_moveOp rfl _ _ _ e0) rfl
    · obtain rfl := Option.some.inj ho
      exact iv_val rfl rfl _ (run_moveOp rfl _ _ _ e6) rfl
    · obtain rfl := Option.some.inj ho
      have g1 : a.eval (.tmp 34) = .slice (some ⟨g, off, none⟩) nR cR := h.has ⟨1, .data⟩ (by simp) rfl _ 34 rfl rfl
      have g2 : a.eval (.tmp 35) = .int .i64 (k : Int) := h.has ⟨2, .data⟩ (by simp) rfl _ 35 rfl rfl
      exact iv_val rfl rfl _ (run_index12 rfl _ _ _ _ _ g1 g2 i1) rfl
    · obtain rfl := Option.some.inj ho
      have g1 : a.eval (.tmp 36) = .pointer (some ⟨g, off + k * 28, none⟩) := h.has ⟨3, .data⟩ (by simp) rfl _ 36 rfl rfl
      exact iv_val rfl rfl _ (run_fieldOp rfl _ _ _ ((congrArg (fun y => (Instr.fieldAt 30 y 0).run Try.prog w) g1).trans f0)) rfl
    · obtain rfl := Option.some.inj ho
      have g1 : a.eval (.tmp 37) = .pointer (some ⟨g, off + k * 28, none⟩) := h.has ⟨4, .data⟩ (by simp) rfl _ 37 rfl rfl
      exact iv_val rfl rfl _ (run_loadOp rfl _ _ _ _ g1 (load_int12 _ _ _ c0)) rfl
    · obtain rfl := Option.some.inj ho
      exact iv_val rfl rfl _ (run_loadC _ _ _ _ rfl q e7 U N kw.two hUl hNl) rfl
    · obtain rfl := Option.some.inj ho
      exact iv_val rfl rfl _ (run_moveOp rfl _ _ _ e0) rfl
    · obtain rfl := Option.some.inj ho
      exact iv_val rfl rfl _ (run_moveOp rfl _ _ _ e6) rfl
    · obtain rfl := Option.some.inj ho
      have g1 : a.eval (.tmp 40) = .slice (some ⟨g, off, none⟩) nR cR := h.has ⟨7, .data⟩ (by simp) rfl _ 40 rfl rfl
      have g2 : a.eval (.tmp 41) = .int .i64 (k : Int) := h.has ⟨8, .data⟩ (by simp) rfl _ 41 rfl rfl
      exact iv_val rfl rfl _ (run_index12 rfl _ _ _ _ _ g1 g2 i1) rfl
    · obtain rfl := Option.some.inj ho
      have g1 : a.eval (.tmp 42) = .pointer (some ⟨g, off + k * 28, none⟩) := h.has ⟨9, .data⟩ (by simp) rfl _ 42 rfl rfl
      exact iv_val rfl rfl _ (run_fieldOp rfl _ _ _ ((congrArg (fun y => (Instr.fieldAt 30 y 2).run Try.prog w) g1).trans f2)) rfl
    · obtain rfl := Option.some.inj ho
      have g1 : a.eval (.tmp 43) = .pointer (some ⟨g, off + k * 28 + 27, none⟩) := h.has ⟨10, .data⟩ (by simp) rfl _ 43 rfl rfl
      exact iv_val rfl rfl _ (run_loadOp rfl _ _ _ _ g1 (load_int12 _ _ _ c27)) rfl
    · obtain rfl := Option.some.inj ho
      have g1 : a.eval (.tmp 38) = .int .i64 ord := h.has ⟨5, .data⟩ (by simp) rfl _ 38 rfl rfl
      have g2 : a.eval (.tmp 39) = .agg (cv U N) := h.has ⟨6, .data⟩ (by simp) rfl _ 39 rfl rfl
      have g3 : a.eval (.tmp 44) = .int .i64 act := h.has ⟨11, .data⟩ (by simp) rfl _ 44 rfl rfl
      refine iv_list rfl ?_
      refine wl_buildR rfl _ _ _ rfl ord U N act hUl hNl g1 g2 g3 ?_
      exact ⟨_, rfl, Below.refl _ _, fun _ _ => rfl⟩
    · obtain rfl := Option.some.inj ho
      have g1 : a.eval (.tmp 45) = .agg (ruleV (mpR ord U N act)) := h.has ⟨12, .data⟩ (by simp) rfl _ 45 rfl rfl
      refine iv_list rfl ?_
      refine wl_buildE (E := RuleE) RuleOk rfl _ rfl (ruleV (mpR ord U N act)) hsz g1 ?_
      exact ⟨_, rfl, (Below.refl _ _).alloc (Nat.le_refl _) _, fun _ _ => ⟨_, rfl, kw.size, heap_new _ _ _ rfl⟩⟩
  · intro o ho a w h
    obtain rfl := Option.some.inj ho
    have hb : Below w0.heap.size w0 w := h.wld
    have kw := frm false w hb
    have g1 : a.eval (.tmp 33) = .slice oP nP cP := h.has ⟨0, .data⟩ (by simp) rfl _ 33 rfl rfl
    obtain ⟨gn, g2, g3, g4⟩ : ∃ gn, a.eval (.tmp 46) = .slice (some ⟨gn, 0, none⟩) 1 1 ∧ w0.heap.size ≤ gn ∧ w.heap[gn]? = some (.cells (ruleV (mpR ord U N act)) 30 (0, 0)) := h.has ⟨13, .data⟩ (by simp) rfl _ 46 rfl rfl
    have hown' := gown_below hown hb
    refine wpOp_of_list rfl ?_
    refine wl_appendE (E := RuleE) RuleOk ruleV rfl _ _ rfl B (.slice oP nP cP) L (mpR ord U N act) (rule_fits HRK) g1 hown' gn 1 g2 g4 (by omega) (Nat.le_trans hB hb.size) ?_
    intro v' w3 hown3 hgr3 _
    have bg : Below B w w3 := (Below.refl _ _).grown hgr3 (Nat.le_trans hB hb.size) fun k hk => (hown'.lt k hk).1
    have k3 : MpI B q g (.cells (cv U N) 26 (0, 0)) (.cells cur t fr) w00 w0 w3 := ⟨(hgr3.block q (Array.getElem?_eq_some_iff.1 kw.two).1 (fun hq => hneq hq.symm)).trans kw.two, (hgr3.block g (Array.getElem?_eq_some_iff.1 kw.one).1 (fun hq => hne hq.symm)).trans kw.one, kw.below.trans bg, Nat.le_trans kw.size bg.size⟩
    refine ⟨v', rfl, k3, ?_, fun _ _ => hown3⟩
    intro i z hi
    unfold mp_V
    split <;> intro hz <;> first
      | exact hz
      | exact absurd rfl hi
      | (obtain ⟨gm, q1, q2, q3⟩ := hz
         exact ⟨gm, q1, q2, (hgr3.block gm (Array.getElem?_eq_some_iff.1 q3).1 (fun hq => by have := (hown.lt gm hq.symm).2; omega)).trans q3⟩)
  · intro a w hI hsz2 hdf hot hh
    have g1 : w.ownsRow B 30 28 (a.eval (.tmp 47)) (L ++ [(mpR ord U N act)]).length (gcells ruleV (L ++ [(mpR ord U N act)])) := hh 14 _ 47 (by decide) rfl rfl
    obtain ⟨v, hv⟩ : ∃ v, a.eval (.tmp 47) = v := ⟨_, rfl⟩
    rw [hv] at g1
    refine wpOp_assign rfl rfl _ rfl v hv (some 5) rfl ?_
    show Q .normal (a.put (some 5) v) w
    rw [puts_form hsz2 hdf hot (fun d hd => hDs d (by revert hd; unfold mp_D mp_D0; intro hd; simp only [List.mem_cons, List.not_mem_nil, or_false] at hd ⊢; omega))]
    exact hK _ w v hI g1
end Go.Proofs.Ytbhnjhiecoapbaa
