import Derived.Test.YtnbklmmampdbfaaDoorJ7
namespace Go.Proofs.YtnbklmmampdbfaaDoor
open Go Go.RowKit
set_option maxRecDepth 20000

theorem has_within8 (V M V' M' H : List Int) (h : within V M V' M' = true) (h2 : has V M H = true) : has V' M' H = true := by
  rw [has_iff] at h2 ⊢
  rw [within_iff] at h
  intro i hi hm
  obtain ⟨h3, h4⟩ := h i hi hm
  rw [← h4]; exact h2 i hi h3

set_option maxHeartbeats 4000000 in
theorem trim_looks (l : List RuleM) (H : List Int) : lookT (trimT l) H = lookT l H := by
  unfold lookT
  rw [trimT_go, trim_look withinR (hasR H) (fun a b h1 h2 => has_within8 _ _ _ _ _ h1 h2) l [] (fun a ha => by simp at ha)]
theorem trim_twice (l : List RuleM) : trimT (trimT l) = trimT l := by
  rw [trimT_go, trimT_go, trim_again withinR l [] [] (fun a ha => ha)]

set_option maxHeartbeats 8000000 in
set_option maxRecDepth 100000 in
theorem lawFTrims_any (l0 : List RuleM) (hok0 : ∀ r ∈ l0, okR8 r) (vl : Value) (H : List Int) (hH : Byt H) (w : World) (hl0 : RulesAt w vl l0) (hP : Places w) :
    Calls Tryd.prog 4 #[vl, .agg (hv H)] w fun e w' => e = .returned (.bool true) ∧ Below w.heap.size w w' := by
  have hHl := hH.1
  obtain ⟨o, cap, rfl, hc1, hc2⟩ := GSl.slice hl0
  obtain ⟨n0, hn0⟩ : ∃ n, n = l0.length := ⟨_, rfl⟩
  rw [← hn0] at hl0 hc1 ⊢
  obtain ⟨n, hn⟩ : ∃ n, n = min n0 40 := ⟨_, rfl⟩
  have HNM : Hid ((n : Int) = min (n0 : Int) 40) := (by omega : (n : Int) = min (n0 : Int) 40)
  have hn0' : n ≤ n0 := by omega
  have hl : RulesAt w (.slice o n cap) (l0.take n) := GSl.take7 hl0 hn0'
  have hok : ∀ r ∈ l0.take n, okR8 r := fun r hr => hok0 r (List.mem_of_mem_take hr)
  have hlen : (l0.take n).length ≤ 100000 := by rw [List.length_take]; omega
  have hsl : ∀ W, (Instr.sliceAt 29 (.slice o n0 cap) none (some (.int .i64 (n : Int))) none).run Tryd.prog W = .ok (.slice o n cap) W := slice_rules hl0 n hn0' hc1
  obtain ⟨l, hle⟩ : ∃ l, l = l0.take n := ⟨_, rfl⟩
  rw [← hle] at hl hok hlen
  unfold maxLen at hc2
  obtain ⟨T, hT⟩ : ∃ T, T = trimT l := ⟨_, rfl⟩
  have hTok : ∀ r ∈ T, okR8 r := fun r hr => by
    rw [hT] at hr
    rcases trimO_sub withinR l [] r hr with h1 | h1
    · simp at h1
    · exact hok r h1
  have hTl : T.length ≤ 100000 := by
    have := trimO_len withinR l []
    rw [hT]; unfold trimT
    simp at this
    omega
  have hTT : trimT T = T := by rw [hT, trim_twice]
  have hTL : lookT T H = lookT l H := by rw [hT, trim_looks]
  have AW : Hid (∀ W, Below w.heap.size w W → Calls Tryd.prog 7 #[] W fun e w' => e = .returned (.bool true) ∧ Below W.heap.size W w') := fun W hb => awake8_any W (hP.later hP.pos hb)
  have T1 : Hid (∀ W, Below w.heap.size w W → Calls Tryd.prog 12 #[.slice o n cap] W fun e w' => (∃ v, e = .returned v ∧ w'.ownsRow W.heap.size 35 28 v T.length (gcells ruleV T)) ∧ Below W.heap.size W w') := fun W hb => by rw [hT]; exact trim_any l hok hlen _ W (GSl.below hl hb)
  have T2 : Hid (∀ W, Below w.heap.size w W → Calls Tryd.prog 14 #[.slice o n cap] W fun e w' => (∃ v, e = .returned v ∧ w'.ownsRow W.heap.size 35 28 v T.length (gcells ruleV T)) ∧ Below W.heap.size W w') := fun W hb => by rw [hT]; exact rtrim_any l hok hlen _ W (GSl.below hl hb)
  have T3 : Hid (∀ v W, RulesAt W v T → Calls Tryd.prog 12 #[v] W fun e w' => (∃ v, e = .returned v ∧ w'.ownsRow W.heap.size 35 28 v T.length (gcells ruleV T)) ∧ Below W.heap.size W w') := fun v W h => by
    have := trim_any T hTok hTl v W h
    rwa [hTT] at this
  have L1 : Hid (∀ W, Below w.heap.size w W → Calls Tryd.prog 10 #[.slice o n cap, .agg (hv H)] W fun e w' => e = .returned (.tuple #[.agg (ruleV (lookT l H).1), .bool (lookT l H).2]) ∧ Below W.heap.size W w') := fun W hb => look_any l hok _ H hH W (GSl.below hl hb)
  have L2 : Hid (∀ v W, RulesAt W v T → Calls Tryd.prog 10 #[v, .agg (hv H)] W fun e w' => e = .returned (.tuple #[.agg (ruleV (lookT l H).1), .bool (lookT l H).2]) ∧ Below W.heap.size W w') := fun v W h => by
    have := look_any T hTok v H hH W h
    rwa [hTL] at this
  have SM : Hid (∀ va vb W, RulesAt W va T → RulesAt W vb T → Calls Tryd.prog 13 #[va, vb] W fun e w' => e = .returned (.bool true) ∧ Below W.heap.size W w') := fun va vb W h1 h2 => rsame8_any T hTok va vb W h1 h2
  have hr := look_ok hok H
  obtain ⟨⟨r, ok⟩, hS⟩ : ∃ S, S = lookT l H := ⟨_, rfl⟩
  rw [← hS] at L1 L2 hr
  simp only at L1 L2 hr
  have HTK : Hid (∀ c ∈ T, (ruleV c).size = 28) := fun c hc => ruleV_size (hTok c hc)
  have HR : Hid (okR8 r) := hr
  have hsz := ruleV_size hr
  have heq : ∀ w, (Op.equalIn 10000 35 (.agg (ruleV r)) (.agg (ruleV r))).run Tryd.prog w = .ok true w := eqR_same hr
  have heg : ∀ op x y w, (eqGuard op 35 x y (.agg (ruleV r)) (.agg (ruleV r))).run Tryd.prog w = .ok () w := fun op x y w => egR op x y _ _ w
  have K0 : Hid ((w.alloc (.cells (hv H) 23)).heap[w.heap.size]? = some (.cells (hv H) 23 (0, 0))) := heap_new _ _ _ rfl
  have B0 : Hid (Below w.heap.size w (w.alloc (.cells (hv H) 23))) := (Below.refl _ _).alloc (Nat.le_refl _) _
  obtain ⟨nT, hnT⟩ : ∃ n, n = T.length := ⟨_, rfl⟩
  rw [← hnT] at T1 T2 T3
  have HNT : Hid (nT = T.length) := hnT
  clear hl hl0 hok hok0 hle hn hn0 hP hS hr hT hTok hTl hTT hTL hlen hnT
  go_enter Tryd.func4, Tryd.ntmps4
  go_wp2_with fail
  refine (AW.out _ B0.out).mono ?_
  rintro e w1 ⟨rfl, hb1⟩
  have R1 : Hid (w1.heap[w.heap.size]? = some (.cells (hv H) 23 (0, 0))) := (hb1.block _ (by simp)).trans K0.out
  have B1 : Hid (Below w.heap.size w w1) := B0.out.trans (hb1.mono B0.out.size)
  clear hb1 K0 B0
  go_wp2_with (refine wl_min7 rfl _ _ rfl (n0 : Int) 40 (n : Int) rfl rfl HNM.out ?_)
  refine (T1.out _ B1.out).mono ?_
  rintro e w2 ⟨⟨vt, rfl, ho2⟩, hb2⟩
  have R2 : Hid (w2.heap[w.heap.size]? = some (.cells (hv H) 23 (0, 0))) := (hb2.block _ (Array.getElem?_eq_some_iff.1 R1.out).1).trans R1.out
  have B2 : Hid (Below w.heap.size w w2) := B1.out.trans (hb2.mono B1.out.size)
  have A2 : Hid (RulesAt w2 vt T) := by
    have h3 := ho2
    rw [HNT.out] at h3
    exact gsl_of (E := RuleE) h3 HTK.out
  obtain ⟨ot, ct, rfl⟩ := gown_slice ho2
  clear hb2 ho2 R1 B1
  go_wp2_with (refine wl_load26 rfl _ rfl w.heap.size rfl H R2.out hHl ?_)
  refine (L1.out _ B2.out).mono ?_
  rintro e w3 ⟨rfl, hb3⟩
  have B3 : Hid (Below w.heap.size w (w3.alloc (.cells (ruleV r) 35))) := (B2.out.trans (hb3.mono B2.out.size)).alloc (B2.out.trans (hb3.mono B2.out.size)).size _
  have R3 : Hid ((w3.alloc (.cells (ruleV r) 35)).heap[w.heap.size]? = some (.cells (hv H) 23 (0, 0))) := heap_past _ _ _ _ ((hb3.block _ (Array.getElem?_eq_some_iff.1 R2.out).1).trans R2.out)
  have X3 : Hid ((w3.alloc (.cells (ruleV r) 35)).heap[w3.heap.size]? = some (.cells (ruleV r) 35 (0, 0))) := heap_new _ _ _ rfl
  have A3 : Hid (RulesAt (w3.alloc (.cells (ruleV r) 35)) (.slice ot nT ct) T) := GSl.below (GSl.below A2.out hb3) ((Below.refl _ _).alloc (Nat.le_refl _) _)
  clear hb3 A2 R2 B2
  go_wp2_with (first
    | (refine wl_storeE (E := RuleE) RuleOk rfl _ _ rfl w3.heap.size (ruleV r) (rule_fits HR.out) rfl rfl _ (heap_new _ _ _ rfl) rfl _ (setRow_new _ _ _ _ _ rfl) ?_)
    | (refine wl_load26 rfl _ rfl w.heap.size rfl H R3.out hHl ?_))
  refine (L2.out _ _ A3.out).mono ?_
  rintro e w4 ⟨rfl, hb4⟩
  have B4 : Hid (Below w.heap.size w (w4.alloc (.cells (ruleV r) 35))) := (B3.out.trans (hb4.mono B3.out.size)).alloc (B3.out.trans (hb4.mono B3.out.size)).size _
  have X4 : Hid ((w4.alloc (.cells (ruleV r) 35)).heap[w3.heap.size]? = some (.cells (ruleV r) 35 (0, 0))) := heap_past _ _ _ _ ((hb4.block _ (by simp)).trans X3.out)
  have Y4 : Hid ((w4.alloc (.cells (ruleV r) 35)).heap[w4.heap.size]? = some (.cells (ruleV r) 35 (0, 0))) := heap_new _ _ _ rfl
  have A4 : Hid (RulesAt (w4.alloc (.cells (ruleV r) 35)) (.slice ot nT ct) T) := GSl.below (GSl.below A3.out hb4) ((Below.refl _ _).alloc (Nat.le_refl _) _)
  clear hb4 A3 R3 B3 X3
  go_wp2_with (refine wl_storeE (E := RuleE) RuleOk rfl _ _ rfl w4.heap.size (ruleV r) (rule_fits HR.out) rfl rfl _ (heap_new _ _ _ rfl) rfl _ (setRow_new _ _ _ _ _ rfl) ?_)
  refine (T2.out _ B4.out).mono ?_
  rintro e w5 ⟨⟨vu, rfl, ho5⟩, hb5⟩
  have B5 : Hid (Below w.heap.size w w5) := B4.out.trans (hb5.mono B4.out.size)
  have A5 : Hid (RulesAt w5 (.slice ot nT ct) T) := GSl.below A4.out hb5
  have U5 : Hid (RulesAt w5 vu T) := by
    have h3 := ho5
    rw [HNT.out] at h3
    exact gsl_of (E := RuleE) h3 HTK.out
  have X5 : Hid (w5.heap[w3.heap.size]? = some (.cells (ruleV r) 35 (0, 0))) := (hb5.block _ (Array.getElem?_eq_some_iff.1 X4.out).1).trans X4.out
  have Y5 : Hid (w5.heap[w4.heap.size]? = some (.cells (ruleV r) 35 (0, 0))) := (hb5.block _ (by simp)).trans Y4.out
  clear hb5 ho5 A4 B4 X4 Y4
  go_wp2_with fail
  refine (SM.out _ _ _ A5.out U5.out).mono ?_
  rintro e w6 ⟨rfl, hb6⟩
  have B6 : Hid (Below w.heap.size w w6) := B5.out.trans (hb6.mono B5.out.size)
  have A6 : Hid (RulesAt w6 (.slice ot nT ct) T) := GSl.below A5.out hb6
  have X6 : Hid (w6.heap[w3.heap.size]? = some (.cells (ruleV r) 35 (0, 0))) := (hb6.block _ (Array.getElem?_eq_some_iff.1 X5.out).1).trans X5.out
  have Y6 : Hid (w6.heap[w4.heap.size]? = some (.cells (ruleV r) 35 (0, 0))) := (hb6.block _ (Array.getElem?_eq_some_iff.1 Y5.out).1).trans Y5.out
  clear hb6 A5 B5 X5 Y5 U5
  have hbb : (ok == ok) = true := by simp
  go_wp2_with (first
    | (refine wl_loadE (E := RuleE) RuleOk rfl _ rfl w3.heap.size 0 rfl _ _ _ (ruleV r) hsz X6.out (own_cells _ _) ?_)
    | (refine wl_loadE (E := RuleE) RuleOk rfl _ rfl w4.heap.size 0 rfl _ _ _ (ruleV r) hsz Y6.out (own_cells _ _) ?_))
  refine (T3.out _ _ A6.out).mono ?_
  rintro e w7 ⟨⟨vw, rfl, ho7⟩, hb7⟩
  have B7 : Hid (Below w.heap.size w w7) := B6.out.trans (hb7.mono B6.out.size)
  obtain ⟨o7, c7, rfl⟩ := gown_slice ho7
  clear hb7 ho7
  go_wp2_with fail
  go_ret
  exact ⟨by first | rfl | simp, B7.out⟩
end Go.Proofs.YtnbklmmampdbfaaDoor
