import Derived.Test.YtjfbahpaahlidaaDoorRefLess
namespace Go.Proofs.YtjfbahpaahlidaaDoor
open Go Go.RowKit

set_option maxHeartbeats 2000000 in
theorem lawOrder_ne (A B C : List Int) (hA : A.length = 13) (hB : B.length = 13) (hC : C.length = 13) (x y z : Bool) (w : World) (hT : Laid w)
    (cAB : ∀ W, Calls Tryd.prog 22 #[.agg (hv A), .agg (hv B)] W fun e w' => e = .returned (.bool x) ∧ Below W.heap.size W w')
    (rAB : ∀ W, Calls Tryd.prog 23 #[.agg (hv A), .agg (hv B)] W fun e w' => e = .returned (.bool x) ∧ Below W.heap.size W w')
    (cAA : ∀ W, Calls Tryd.prog 22 #[.agg (hv A), .agg (hv A)] W fun e w' => e = .returned (.bool false) ∧ Below W.heap.size W w')
    (cBA : ∀ W, Calls Tryd.prog 22 #[.agg (hv B), .agg (hv A)] W fun e w' => e = .returned (.bool (!x)) ∧ Below W.heap.size W w')
    (cBC : ∀ W, Calls Tryd.prog 22 #[.agg (hv B), .agg (hv C)] W fun e w' => e = .returned (.bool y) ∧ Below W.heap.size W w')
    (cAC : ∀ W, Calls Tryd.prog 22 #[.agg (hv A), .agg (hv C)] W fun e w' => e = .returned (.bool z) ∧ Below W.heap.size W w')
    (hne : (A == B) = false) (hz : x = true → y = true → z = true) :
    Calls Tryd.prog 6 #[.agg (hv A), .agg (hv B), .agg (hv C)] w fun e w' => e = .returned (.bool true) ∧ Below w.heap.size w w' := by
  have hsz := hT.size
  have HT : Hid (Laid w) := hT
  have KAB : Hid _ := cAB
  have RAB : Hid _ := rAB
  have KAA : Hid _ := cAA
  have KBA : Hid _ := cBA
  have KBC : Hid _ := cBC
  have KAC : Hid _ := cAC
  have HZ : Hid (x = true → y = true → z = true) := hz
  have e2 : ∀ w, (Op.equalIn 10000 26 (.agg (hv A)) (.agg (hv B))).run Tryd.prog w = .ok false w := fun w => by rw [eq26 A B hA hB, hne]
  have eg : ∀ op x y (xs ys : Array Value) w, (eqGuard op 26 x y (.agg xs) (.agg ys)).run Tryd.prog w = .ok () w := fun op x y xs ys w => run_eqGuard_agg w op 26 x y xs ys (by kernel_rfl)
  clear hT cAB rAB cAA cBA cBC cAC hne hz
  go_enter Tryd.func6, Tryd.ntmps6
  go_wp2_with fail
  have hB0 : Below w.heap.size w (((w.alloc (Obj.cells (hv A) 26)).alloc (Obj.cells (hv B) 26)).alloc (Obj.cells (hv C) 26)) := (((Below.refl _ _).alloc (Nat.le_refl _) _).alloc (by simp) _).alloc (by simp; omega) _
  refine (awake_any _ (HT.out.later hsz hB0)).mono ?_
  rintro e w1 ⟨rfl, hb1⟩
  have gA : w1.heap[w.heap.size]? = some (.cells (hv A) 26 (0, 0)) := by rw [hb1.block _ (by simp; omega)]; exact heap_past _ _ _ _ (heap_past _ _ _ _ (heap_new _ _ _ rfl))
  have gB : w1.heap[w.heap.size + 1]? = some (.cells (hv B) 26 (0, 0)) := by rw [hb1.block _ (by simp)]; exact heap_past _ _ _ _ (heap_new _ _ _ (by simp))
  have gC : w1.heap[w.heap.size + 1 + 1]? = some (.cells (hv C) 26 (0, 0)) := by rw [hb1.block _ (by simp)]; exact heap_new _ _ _ (by simp)
  have hB1 : Below w.heap.size w w1 := hB0.trans (hb1.mono hB0.size)
  clear hb1 HT hB0
  go_wp2_with fail
  have ne1 := Later.ne w1
  refine wp_region_later (by kernel_rfl) (by kernel_rfl) ?_
  refine ql26 rfl _ rfl w.heap.size rfl A gA hA ?_
  simp only [Act.put, List.setIfInBounds_toArray, List.set_cons_succ, List.set_cons_zero]
  refine ql26 rfl _ rfl (w.heap.size + 1) rfl B gB hB ?_
  simp only [Act.put, List.setIfInBounds_toArray, List.set_cons_succ, List.set_cons_zero]
  go_big_quiet_want; go_big_quiet_op
  refine ⟨_, fun u => Calls.later_of (KAB.out u.world), ?_⟩
  go_big_quiet_on
  refine ql26 rfl _ rfl w.heap.size rfl A gA hA ?_
  simp only [Act.put, List.setIfInBounds_toArray, List.set_cons_succ, List.set_cons_zero]
  refine ql26 rfl _ rfl (w.heap.size + 1) rfl B gB hB ?_
  simp only [Act.put, List.setIfInBounds_toArray, List.set_cons_succ, List.set_cons_zero]
  go_big_quiet_want; go_big_quiet_op
  refine ⟨_, fun u => Calls.later_of (RAB.out u.world), ?_⟩
  go_big_quiet_on
  go_big_quiet_step (fail)
  go_big_quiet_step (fail)
  refine ql26 rfl _ rfl w.heap.size rfl A gA hA ?_
  simp only [Act.put, List.setIfInBounds_toArray, List.set_cons_succ, List.set_cons_zero]
  refine ql26 rfl _ rfl w.heap.size rfl A gA hA ?_
  simp only [Act.put, List.setIfInBounds_toArray, List.set_cons_succ, List.set_cons_zero]
  go_big_quiet_want; go_big_quiet_op
  refine ⟨_, fun u => Calls.later_of (KAA.out u.world), ?_⟩
  go_big_quiet_on
  go_big_quiet_step (fail)
  go_big_quiet_step (fail)
  refine ql26 rfl _ rfl w.heap.size rfl A gA hA ?_
  simp only [Act.put, List.setIfInBounds_toArray, List.set_cons_succ, List.set_cons_zero]
  refine ql26 rfl _ rfl (w.heap.size + 1) rfl B gB hB ?_
  simp only [Act.put, List.setIfInBounds_toArray, List.set_cons_succ, List.set_cons_zero]
  go_big_quiet_step (fail)
  go_big_quiet_step (fail)
  refine ql26 rfl _ rfl w.heap.size rfl A gA hA ?_
  simp only [Act.put, List.setIfInBounds_toArray, List.set_cons_succ, List.set_cons_zero]
  refine ql26 rfl _ rfl (w.heap.size + 1) rfl B gB hB ?_
  simp only [Act.put, List.setIfInBounds_toArray, List.set_cons_succ, List.set_cons_zero]
  go_big_quiet_want; go_big_quiet_op
  refine ⟨_, fun u => Calls.later_of (KAB.out u.world), ?_⟩
  go_big_quiet_on
  refine ql26 rfl _ rfl (w.heap.size + 1) rfl B gB hB ?_
  simp only [Act.put, List.setIfInBounds_toArray, List.set_cons_succ, List.set_cons_zero]
  refine ql26 rfl _ rfl w.heap.size rfl A gA hA ?_
  simp only [Act.put, List.setIfInBounds_toArray, List.set_cons_succ, List.set_cons_zero]
  go_big_quiet_want; go_big_quiet_op
  refine ⟨_, fun u => Calls.later_of (KBA.out u.world), ?_⟩
  go_big_quiet_on
  repeat go_big_quiet_step (fail)
  refine wpQuiet_nil ?_
  rintro w' ⟨u, rfl⟩
  obtain ⟨V, hV⟩ : ∃ V, V = u.world := ⟨_, rfl⟩
  have kA : V.heap[w.heap.size]? = some (.cells (hv A) 26 (0, 0)) := by rw [hV]; exact later_block gA _ ⟨u, rfl⟩
  have kB : V.heap[w.heap.size + 1]? = some (.cells (hv B) 26 (0, 0)) := by rw [hV]; exact later_block gB _ ⟨u, rfl⟩
  have kC : V.heap[w.heap.size + 1 + 1]? = some (.cells (hv C) 26 (0, 0)) := by rw [hV]; exact later_block gC _ ⟨u, rfl⟩
  have hB4 : Below w.heap.size w V := by rw [hV]; exact hB1.trans (u.below.mono hB1.size)
  rw [← hV]
  clear hV gA gB gC hB1
  go_wp2_with (first | (refine wl_load26g rfl _ rfl w.heap.size rfl A kA hA ?_) | (refine wl_load26g rfl _ rfl (w.heap.size + 1) rfl B kB hB ?_))
  refine (KAB.out V).mono ?_
  rintro e w2 ⟨rfl, hb2⟩
  have mA : w2.heap[w.heap.size]? = some (.cells (hv A) 26 (0, 0)) := by rw [hb2.block _ (Array.getElem?_eq_some_iff.1 kA).1]; exact kA
  have mB : w2.heap[w.heap.size + 1]? = some (.cells (hv B) 26 (0, 0)) := by rw [hb2.block _ (Array.getElem?_eq_some_iff.1 kB).1]; exact kB
  have mC : w2.heap[w.heap.size + 1 + 1]? = some (.cells (hv C) 26 (0, 0)) := by rw [hb2.block _ (Array.getElem?_eq_some_iff.1 kC).1]; exact kC
  have hB5 : Below w.heap.size w w2 := hB4.trans (hb2.mono hB4.size)
  clear hb2 hB4 kA kB kC KAB RAB KAA KBA
  cases x
  · go_wp2_with fail
    go_ret
    exact ⟨rfl, hB5⟩
  · go_wp2_with (first | (refine wl_load26g rfl _ rfl (w.heap.size + 1) rfl B mB hB ?_) | (refine wl_load26g rfl _ rfl (w.heap.size + 1 + 1) rfl C mC hC ?_))
    refine (KBC.out w2).mono ?_
    rintro e w3 ⟨rfl, hb3⟩
    have nA : w3.heap[w.heap.size]? = some (.cells (hv A) 26 (0, 0)) := by rw [hb3.block _ (Array.getElem?_eq_some_iff.1 mA).1]; exact mA
    have nC : w3.heap[w.heap.size + 1 + 1]? = some (.cells (hv C) 26 (0, 0)) := by rw [hb3.block _ (Array.getElem?_eq_some_iff.1 mC).1]; exact mC
    have hB6 : Below w.heap.size w w3 := hB5.trans (hb3.mono hB5.size)
    clear hb3 hB5 mA mB mC KBC
    cases y
    · go_wp2_with fail
      go_ret
      exact ⟨rfl, hB6⟩
    · obtain rfl : z = true := by simpa using HZ.out
      clear HZ
      go_wp2_with (first | (refine wl_load26g rfl _ rfl w.heap.size rfl A nA hA ?_) | (refine wl_load26g rfl _ rfl (w.heap.size + 1 + 1) rfl C nC hC ?_))
      refine (KAC.out w3).mono ?_
      rintro e w4 ⟨rfl, hb4⟩
      go_wp2_with fail
      go_ret
      exact ⟨rfl, hB6.trans (hb4.mono hB6.size)⟩

set_option maxHeartbeats 2000000 in
theorem lawOrder_eq (A B C : List Int) (hA : A.length = 13) (hB : B.length = 13) (hC : C.length = 13) (x y z : Bool) (w : World) (hT : Laid w)
    (cAB : ∀ W, Calls Tryd.prog 22 #[.agg (hv A), .agg (hv B)] W fun e w' => e = .returned (.bool x) ∧ Below W.heap.size W w')
    (rAB : ∀ W, Calls Tryd.prog 23 #[.agg (hv A), .agg (hv B)] W fun e w' => e = .returned (.bool x) ∧ Below W.heap.size W w')
    (cAA : ∀ W, Calls Tryd.prog 22 #[.agg (hv A), .agg (hv A)] W fun e w' => e = .returned (.bool false) ∧ Below W.heap.size W w')
    (cBC : ∀ W, Calls Tryd.prog 22 #[.agg (hv B), .agg (hv C)] W fun e w' => e = .returned (.bool y) ∧ Below W.heap.size W w')
    (cAC : ∀ W, Calls Tryd.prog 22 #[.agg (hv A), .agg (hv C)] W fun e w' => e = .returned (.bool z) ∧ Below W.heap.size W w')
    (hne : (A == B) = true) (hz : x = true → y = true → z = true) :
    Calls Tryd.prog 6 #[.agg (hv A), .agg (hv B), .agg (hv C)] w fun e w' => e = .returned (.bool true) ∧ Below w.heap.size w w' := by
  have hsz := hT.size
  have HT : Hid (Laid w) := hT
  have KAB : Hid _ := cAB
  have RAB : Hid _ := rAB
  have KAA : Hid _ := cAA
  have KBC : Hid _ := cBC
  have KAC : Hid _ := cAC
  have HZ : Hid (x = true → y = true → z = true) := hz
  have e2 : ∀ w, (Op.equalIn 10000 26 (.agg (hv A)) (.agg (hv B))).run Tryd.prog w = .ok true w := fun w => by rw [eq26 A B hA hB, hne]
  have eg : ∀ op x y (xs ys : Array Value) w, (eqGuard op 26 x y (.agg xs) (.agg ys)).run Tryd.prog w = .ok () w := fun op x y xs ys w => run_eqGuard_agg w op 26 x y xs ys (by kernel_rfl)
  clear hT cAB rAB cAA cBC cAC hne hz
  go_enter Tryd.func6, Tryd.ntmps6
  go_wp2_with fail
  have hB0 : Below w.heap.size w (((w.alloc (Obj.cells (hv A) 26)).alloc (Obj.cells (hv B) 26)).alloc (Obj.cells (hv C) 26)) := (((Below.refl _ _).alloc (Nat.le_refl _) _).alloc (by simp) _).alloc (by simp; omega) _
  refine (awake_any _ (HT.out.later hsz hB0)).mono ?_
  rintro e w1 ⟨rfl, hb1⟩
  have gA : w1.heap[w.heap.size]? = some (.cells (hv A) 26 (0, 0)) := by rw [hb1.block _ (by simp; omega)]; exact heap_past _ _ _ _ (heap_past _ _ _ _ (heap_new _ _ _ rfl))
  have gB : w1.heap[w.heap.size + 1]? = some (.cells (hv B) 26 (0, 0)) := by rw [hb1.block _ (by simp)]; exact heap_past _ _ _ _ (heap_new _ _ _ (by simp))
  have gC : w1.heap[w.heap.size + 1 + 1]? = some (.cells (hv C) 26 (0, 0)) := by rw [hb1.block _ (by simp)]; exact heap_new _ _ _ (by simp)
  have hB1 : Below w.heap.size w w1 := hB0.trans (hb1.mono hB0.size)
  clear hb1 HT hB0
  go_wp2_with fail
  have ne1 := Later.ne w1
  refine wp_region_later (by kernel_rfl) (by kernel_rfl) ?_
  refine ql26 rfl _ rfl w.heap.size rfl A gA hA ?_
  simp only [Act.put, List.setIfInBounds_toArray, List.set_cons_succ, List.set_cons_zero]
  refine ql26 rfl _ rfl (w.heap.size + 1) rfl B gB hB ?_
  simp only [Act.put, List.setIfInBounds_toArray, List.set_cons_succ, List.set_cons_zero]
  go_big_quiet_want; go_big_quiet_op
  refine ⟨_, fun u => Calls.later_of (KAB.out u.world), ?_⟩
  go_big_quiet_on
  refine ql26 rfl _ rfl w.heap.size rfl A gA hA ?_
  simp only [Act.put, List.setIfInBounds_toArray, List.set_cons_succ, List.set_cons_zero]
  refine ql26 rfl _ rfl (w.heap.size + 1) rfl B gB hB ?_
  simp only [Act.put, List.setIfInBounds_toArray, List.set_cons_succ, List.set_cons_zero]
  go_big_quiet_want; go_big_quiet_op
  refine ⟨_, fun u => Calls.later_of (RAB.out u.world), ?_⟩
  go_big_quiet_on
  go_big_quiet_step (fail)
  go_big_quiet_step (fail)
  refine ql26 rfl _ rfl w.heap.size rfl A gA hA ?_
  simp only [Act.put, List.setIfInBounds_toArray, List.set_cons_succ, List.set_cons_zero]
  refine ql26 rfl _ rfl w.heap.size rfl A gA hA ?_
  simp only [Act.put, List.setIfInBounds_toArray, List.set_cons_succ, List.set_cons_zero]
  go_big_quiet_want; go_big_quiet_op
  refine ⟨_, fun u => Calls.later_of (KAA.out u.world), ?_⟩
  go_big_quiet_on
  go_big_quiet_step (fail)
  go_big_quiet_step (fail)
  refine ql26 rfl _ rfl w.heap.size rfl A gA hA ?_
  simp only [Act.put, List.setIfInBounds_toArray, List.set_cons_succ, List.set_cons_zero]
  refine ql26 rfl _ rfl (w.heap.size + 1) rfl B gB hB ?_
  simp only [Act.put, List.setIfInBounds_toArray, List.set_cons_succ, List.set_cons_zero]
  go_big_quiet_step (fail)
  go_big_quiet_step (fail)
  repeat go_big_quiet_step (fail)
  refine wpQuiet_nil ?_
  rintro w' ⟨u, rfl⟩
  obtain ⟨V, hV⟩ : ∃ V, V = u.world := ⟨_, rfl⟩
  have kA : V.heap[w.heap.size]? = some (.cells (hv A) 26 (0, 0)) := by rw [hV]; exact later_block gA _ ⟨u, rfl⟩
  have kB : V.heap[w.heap.size + 1]? = some (.cells (hv B) 26 (0, 0)) := by rw [hV]; exact later_block gB _ ⟨u, rfl⟩
  have kC : V.heap[w.heap.size + 1 + 1]? = some (.cells (hv C) 26 (0, 0)) := by rw [hV]; exact later_block gC _ ⟨u, rfl⟩
  have hB4 : Below w.heap.size w V := by rw [hV]; exact hB1.trans (u.below.mono hB1.size)
  rw [← hV]
  clear hV gA gB gC hB1
  go_wp2_with (first | (refine wl_load26g rfl _ rfl w.heap.size rfl A kA hA ?_) | (refine wl_load26g rfl _ rfl (w.heap.size + 1) rfl B kB hB ?_))
  refine (KAB.out V).mono ?_
  rintro e w2 ⟨rfl, hb2⟩
  have mA : w2.heap[w.heap.size]? = some (.cells (hv A) 26 (0, 0)) := by rw [hb2.block _ (Array.getElem?_eq_some_iff.1 kA).1]; exact kA
  have mB : w2.heap[w.heap.size + 1]? = some (.cells (hv B) 26 (0, 0)) := by rw [hb2.block _ (Array.getElem?_eq_some_iff.1 kB).1]; exact kB
  have mC : w2.heap[w.heap.size + 1 + 1]? = some (.cells (hv C) 26 (0, 0)) := by rw [hb2.block _ (Array.getElem?_eq_some_iff.1 kC).1]; exact kC
  have hB5 : Below w.heap.size w w2 := hB4.trans (hb2.mono hB4.size)
  clear hb2 hB4 kA kB kC KAB RAB KAA
  cases x
  · go_wp2_with fail
    go_ret
    exact ⟨rfl, hB5⟩
  · go_wp2_with (first | (refine wl_load26g rfl _ rfl (w.heap.size + 1) rfl B mB hB ?_) | (refine wl_load26g rfl _ rfl (w.heap.size + 1 + 1) rfl C mC hC ?_))
    refine (KBC.out w2).mono ?_
    rintro e w3 ⟨rfl, hb3⟩
    have nA : w3.heap[w.heap.size]? = some (.cells (hv A) 26 (0, 0)) := by rw [hb3.block _ (Array.getElem?_eq_some_iff.1 mA).1]; exact mA
    have nC : w3.heap[w.heap.size + 1 + 1]? = some (.cells (hv C) 26 (0, 0)) := by rw [hb3.block _ (Array.getElem?_eq_some_iff.1 mC).1]; exact mC
    have hB6 : Below w.heap.size w w3 := hB5.trans (hb3.mono hB5.size)
    clear hb3 hB5 mA mB mC KBC
    cases y
    · go_wp2_with fail
      go_ret
      exact ⟨rfl, hB6⟩
    · obtain rfl : z = true := by simpa using HZ.out
      clear HZ
      go_wp2_with (first | (refine wl_load26g rfl _ rfl w.heap.size rfl A nA hA ?_) | (refine wl_load26g rfl _ rfl (w.heap.size + 1 + 1) rfl C nC hC ?_))
      refine (KAC.out w3).mono ?_
      rintro e w4 ⟨rfl, hb4⟩
      go_wp2_with fail
      go_ret
      exact ⟨rfl, hB6.trans (hb4.mono hB6.size)⟩

theorem lawOrder_any (A B C : List Int) (hA : Byt A) (hB : Byt B) (hC : Byt C) (w : World) (hT : Laid w) :
    Calls Tryd.prog 6 #[.agg (hv A), .agg (hv B), .agg (hv C)] w fun e w' => e = .returned (.bool true) ∧ Below w.heap.size w w' := by
  have hAA : ∀ W, Calls Tryd.prog 22 #[.agg (hv A), .agg (hv A)] W fun e w' => e = .returned (.bool false) ∧ Below W.heap.size W w' := fun W => by
    have h := less_any A A hA hA W
    rw [less_refl] at h; exact h
  by_cases e : A = B
  · subst e
    exact lawOrder_eq A A C hA.1 hA.1 hC.1 (lessL A A) (lessL A C) (lessL A C) w hT (less_any A A hA hA) (refLess_any A A hA hA) hAA (less_any A C hA hC) (less_any A C hA hC) (by simp) (fun _ h => h)
  · have hBA : ∀ W, Calls Tryd.prog 22 #[.agg (hv B), .agg (hv A)] W fun e w' => e = .returned (.bool (!(lessL A B))) ∧ Below W.heap.size W w' := fun W => by
      have h := less_any B A hB hA W
      rw [less_anti B A (by rw [hA.1, hB.1]) (fun h => e h.symm)] at h; exact h
    exact lawOrder_ne A B C hA.1 hB.1 hC.1 (lessL A B) (lessL B C) (lessL A C) w hT (less_any A B hA hB) (refLess_any A B hA hB) hAA hBA (less_any B C hB hC) (less_any A C hA hC) (by simpa using e) (less_trans A B C (by rw [hA.1, hB.1]) (by rw [hB.1, hC.1]))
end Go.Proofs.YtjfbahpaahlidaaDoor
