import Derived.Test.YtjfbahpaahlidaaDoorAwake
import Derived.Test.YtjfbahpaahlidaaDoorFlipMath
namespace Go.Proofs.YtjfbahpaahlidaaDoor
open Go Go.RowKit

theorem ql26 {W : World} {ops : Array Oper} {Q : Act → Prop} {rest : List Oper} {o : Oper} {a : Act} (hw : Region.wanted o (yielded ops a.tmps) = true) (x : Operand) (ho : o.op = .load 26 x)
    (g : Nat) (hx : a.eval x = .pointer (some ⟨g, 0, none⟩)) (L : List Int) (hg : W.heap[g]? = some (.cells (hv L) 26 (0, 0))) (hL : L.length = 13)
    (h : wpQuiet Tryd.prog ops (fun w' => ∃ u : Later W, w' = u.world) Q rest (a.put o.dst (.agg (hv L)))) : wpQuiet Tryd.prog ops (fun w' => ∃ u : Later W, w' = u.world) Q (o :: rest) a :=
  q_load_row hw 26 x ho g hx 26 (hv L) (0, 0) _ (later_block hg) Tryd.underlying26 rfl (size26 L hL) h

set_option maxHeartbeats 2000000 in
theorem lawBits_in (L G : List Int) (hL : L.length = 13) (hG : G.length = 13) (i k : Int) (b c c' : Bool) (w : World) (hT : Laid w)
    (h0 : 0 ≤ i) (h1 : i < 104)
    (hF1 : ∀ W, Calls Tryd.prog 19 #[.agg (hv L), .int .i64 i] W fun e w' => e = .returned (.agg (hv G)) ∧ Below W.heap.size W w')
    (hF2 : ∀ W, Calls Tryd.prog 19 #[.agg (hv G), .int .i64 i] W fun e w' => e = .returned (.agg (hv L)) ∧ Below W.heap.size W w')
    (hb1 : ∀ W, Calls Tryd.prog 20 #[.agg (hv L), .int .i64 i] W fun e w' => e = .returned (.bool b) ∧ Below W.heap.size W w')
    (hb2 : ∀ W, Calls Tryd.prog 21 #[.agg (hv L), .int .i64 i] W fun e w' => e = .returned (.bool b) ∧ Below W.heap.size W w')
    (hbk : ∀ W, Calls Tryd.prog 20 #[.agg (hv L), .int .i64 k] W fun e w' => e = .returned (.bool c) ∧ Below W.heap.size W w')
    (hgk : ∀ W, Calls Tryd.prog 20 #[.agg (hv G), .int .i64 k] W fun e w' => e = .returned (.bool c') ∧ Below W.heap.size W w')
    (hne : (G == L) = false) (hc : c' = (c != (true && decide (i = k)))) :
    Calls Tryd.prog 5 #[.agg (hv L), .int .i64 i, .int .i64 k] w fun e w' => e = .returned (.bool true) ∧ Below w.heap.size w w' := by
  have hsz := hT.size
  have HT : Hid (Laid w) := hT
  have F1 : Hid _ := hF1
  have F2 : Hid _ := hF2
  have B1 : Hid _ := hb1
  have B2 : Hid _ := hb2
  have BK : Hid _ := hbk
  have GK : Hid _ := hgk
  have HC : Hid (c' = (c != (true && decide (i = k)))) := hc
  have e1 : ∀ w, (Op.equalIn 10000 26 (.agg (hv L)) (.agg (hv L))).run Tryd.prog w = .ok true w := fun w => by rw [eq26 L L hL hL]; simp
  have e2 : ∀ w, (Op.equalIn 10000 26 (.agg (hv G)) (.agg (hv L))).run Tryd.prog w = .ok false w := fun w => by rw [eq26 G L hG hL, hne]
  have eg : ∀ op x y (xs ys : Array Value) w, (eqGuard op 26 x y (.agg xs) (.agg ys)).run Tryd.prog w = .ok () w := fun op x y xs ys w => run_eqGuard_agg w op 26 x y xs ys (by kernel_rfl)
  clear hT hF1 hF2 hb1 hb2 hbk hgk hc hne
  go_enter Tryd.func5, Tryd.ntmps5
  go_wp2_with fail
  refine (awake_any _ (HT.out.later hsz ((Below.refl _ _).alloc (Nat.le_refl _) _))).mono ?_
  rintro e w1 ⟨rfl, hb1⟩
  have hz1 := hb1.size
  rw [World.size_alloc] at hz1
  have g1 : w1.heap[w.heap.size]? = some (.cells (hv L) 26 (0, 0)) := by rw [hb1.block _ (by simp)]; exact heap_new _ _ _ rfl
  have hB1 : Below w.heap.size w w1 := ((Below.refl _ _).alloc (Nat.le_refl _) _).trans (hb1.mono (by simp))
  clear hb1 HT
  go_wp2_with (refine wl_load26 rfl _ rfl w.heap.size rfl L g1 hL ?_)
  refine (F1.out _).mono ?_
  rintro e w2 ⟨rfl, hb2⟩
  have hz2 := hb2.size
  have g2 : w2.heap[w.heap.size]? = some (.cells (hv L) 26 (0, 0)) := by rw [hb2.block _ (by omega)]; exact g1
  have hB2 : Below w.heap.size w w2 := hB1.trans (hb2.mono (by omega))
  clear hb2 F1 g1 hB1
  go_wp2_with (refine wl_store26 rfl _ _ rfl w2.heap.size G rfl rfl _ (heap_new _ _ _ rfl) rfl hG _ (setRow_new _ _ _ _ _ rfl) ?_)
  obtain ⟨W, hW⟩ : ∃ W, W = w2.alloc (Obj.cells (hv G) 26) := ⟨_, rfl⟩
  have gL : W.heap[w.heap.size]? = some (.cells (hv L) 26 (0, 0)) := by rw [hW]; exact heap_past _ _ _ _ g2
  have gG : W.heap[w2.heap.size]? = some (.cells (hv G) 26 (0, 0)) := by rw [hW]; exact heap_new _ _ _ rfl
  have hB3 : Below w.heap.size w W := by rw [hW]; exact hB2.alloc hB2.size _
  rw [← hW]
  clear hW g2 hB2
  have ne1 := Later.ne W
  refine wp_region_later (by kernel_rfl) (by kernel_rfl) ?_
  refine ql26 rfl _ rfl w.heap.size rfl L gL hL ?_
  simp only [Act.put, List.setIfInBounds_toArray, List.set_cons_succ, List.set_cons_zero]
  go_big_quiet_step (fail)
  go_big_quiet_want; go_big_quiet_op
  refine ⟨_, fun u => Calls.later_of (B1.out u.world), ?_⟩
  go_big_quiet_on
  refine ql26 rfl _ rfl w.heap.size rfl L gL hL ?_
  simp only [Act.put, List.setIfInBounds_toArray, List.set_cons_succ, List.set_cons_zero]
  go_big_quiet_step (fail)
  go_big_quiet_want; go_big_quiet_op
  refine ⟨_, fun u => Calls.later_of (B2.out u.world), ?_⟩
  go_big_quiet_on
  go_big_quiet_step (fail)
  go_big_quiet_step (fail)
  refine ql26 rfl _ rfl w2.heap.size rfl G gG hG ?_
  simp only [Act.put, List.setIfInBounds_toArray, List.set_cons_succ, List.set_cons_zero]
  go_big_quiet_step (fail)
  go_big_quiet_want; go_big_quiet_op
  refine ⟨_, fun u => Calls.later_of (F2.out u.world), ?_⟩
  go_big_quiet_on
  refine ql26 rfl _ rfl w.heap.size rfl L gL hL ?_
  simp only [Act.put, List.setIfInBounds_toArray, List.set_cons_succ, List.set_cons_zero]
  go_big_quiet_step (fail)
  go_big_quiet_step (fail)
  go_big_quiet_step (fail)
  go_big_quiet_step (fail)
  refine ql26 rfl _ rfl w2.heap.size rfl G gG hG ?_
  simp only [Act.put, List.setIfInBounds_toArray, List.set_cons_succ, List.set_cons_zero]
  refine ql26 rfl _ rfl w.heap.size rfl L gL hL ?_
  simp only [Act.put, List.setIfInBounds_toArray, List.set_cons_succ, List.set_cons_zero]
  go_big_quiet_step (fail)
  go_big_quiet_step (fail)
  go_big_quiet_step (fail)
  refine wpQuiet_nil ?_
  rintro w' ⟨u, rfl⟩
  obtain ⟨V, hV⟩ : ∃ V, V = u.world := ⟨_, rfl⟩
  have gL2 : V.heap[w.heap.size]? = some (.cells (hv L) 26 (0, 0)) := by rw [hV]; exact later_block gL _ ⟨u, rfl⟩
  have gG2 : V.heap[w2.heap.size]? = some (.cells (hv G) 26 (0, 0)) := by rw [hV]; exact later_block gG _ ⟨u, rfl⟩
  have hB4 : Below w.heap.size w V := by rw [hV]; exact hB3.trans (u.below.mono hB3.size)
  rw [← hV]
  clear hV gL gG hB3
  go_wp2
  have ne2 := Later.ne V
  refine wp_region_later (by kernel_rfl) (by kernel_rfl) ?_
  refine ql26 rfl _ rfl w2.heap.size rfl G gG2 hG ?_
  simp only [Act.put, List.setIfInBounds_toArray, List.set_cons_succ, List.set_cons_zero]
  go_big_quiet_step (fail)
  go_big_quiet_want; go_big_quiet_op
  refine ⟨_, fun u => Calls.later_of (GK.out u.world), ?_⟩
  go_big_quiet_on
  refine ql26 rfl _ rfl w.heap.size rfl L gL2 hL ?_
  simp only [Act.put, List.setIfInBounds_toArray, List.set_cons_succ, List.set_cons_zero]
  go_big_quiet_step (fail)
  go_big_quiet_want; go_big_quiet_op
  refine ⟨_, fun u => Calls.later_of (BK.out u.world), ?_⟩
  go_big_quiet_on
  repeat go_big_quiet_step (fail)
  refine wpQuiet_nil ?_
  rintro w' ⟨u2, rfl⟩
  go_wp2
  go_ret
  refine ⟨ret_bool ?_, hB4.trans (u2.below.mono hB4.size)⟩
  rw [HC.out]
  by_cases e : i = k
  · subst e; cases c <;> simp
  · cases c <;> simp [e]

set_option maxHeartbeats 2000000 in
theorem lawBits_lo (L G : List Int) (hL : L.length = 13) (hG : G.length = 13) (i k : Int) (b c c' : Bool) (w : World) (hT : Laid w)
    (h0 : i < 0)
    (hF1 : ∀ W, Calls Tryd.prog 19 #[.agg (hv L), .int .i64 i] W fun e w' => e = .returned (.agg (hv G)) ∧ Below W.heap.size W w')
    (hF2 : ∀ W, Calls Tryd.prog 19 #[.agg (hv G), .int .i64 i] W fun e w' => e = .returned (.agg (hv L)) ∧ Below W.heap.size W w')
    (hb1 : ∀ W, Calls Tryd.prog 20 #[.agg (hv L), .int .i64 i] W fun e w' => e = .returned (.bool b) ∧ Below W.heap.size W w')
    (hb2 : ∀ W, Calls Tryd.prog 21 #[.agg (hv L), .int .i64 i] W fun e w' => e = .returned (.bool b) ∧ Below W.heap.size W w')
    (hbk : ∀ W, Calls Tryd.prog 20 #[.agg (hv L), .int .i64 k] W fun e w' => e = .returned (.bool c) ∧ Below W.heap.size W w')
    (hgk : ∀ W, Calls Tryd.prog 20 #[.agg (hv G), .int .i64 k] W fun e w' => e = .returned (.bool c') ∧ Below W.heap.size W w')
    (hne : (G == L) = true) (hc : c' = (c != (false && decide (i = k)))) :
    Calls Tryd.prog 5 #[.agg (hv L), .int .i64 i, .int .i64 k] w fun e w' => e = .returned (.bool true) ∧ Below w.heap.size w w' := by
  have hsz := hT.size
  have HT : Hid (Laid w) := hT
  have F1 : Hid _ := hF1
  have F2 : Hid _ := hF2
  have B1 : Hid _ := hb1
  have B2 : Hid _ := hb2
  have BK : Hid _ := hbk
  have GK : Hid _ := hgk
  have HC : Hid (c' = (c != (false && decide (i = k)))) := hc
  have e1 : ∀ w, (Op.equalIn 10000 26 (.agg (hv L)) (.agg (hv L))).run Tryd.prog w = .ok true w := fun w => by rw [eq26 L L hL hL]; simp
  have e2 : ∀ w, (Op.equalIn 10000 26 (.agg (hv G)) (.agg (hv L))).run Tryd.prog w = .ok true w := fun w => by rw [eq26 G L hG hL, hne]
  have eg : ∀ op x y (xs ys : Array Value) w, (eqGuard op 26 x y (.agg xs) (.agg ys)).run Tryd.prog w = .ok () w := fun op x y xs ys w => run_eqGuard_agg w op 26 x y xs ys (by kernel_rfl)
  clear hT hF1 hF2 hb1 hb2 hbk hgk hc hne
  go_enter Tryd.func5, Tryd.ntmps5
  go_wp2_with fail
  refine (awake_any _ (HT.out.later hsz ((Below.refl _ _).alloc (Nat.le_refl _) _))).mono ?_
  rintro e w1 ⟨rfl, hb1⟩
  have hz1 := hb1.size
  rw [World.size_alloc] at hz1
  have g1 : w1.heap[w.heap.size]? = some (.cells (hv L) 26 (0, 0)) := by rw [hb1.block _ (by simp)]; exact heap_new _ _ _ rfl
  have hB1 : Below w.heap.size w w1 := ((Below.refl _ _).alloc (Nat.le_refl _) _).trans (hb1.mono (by simp))
  clear hb1 HT
  go_wp2_with (refine wl_load26 rfl _ rfl w.heap.size rfl L g1 hL ?_)
  refine (F1.out _).mono ?_
  rintro e w2 ⟨rfl, hb2⟩
  have hz2 := hb2.size
  have g2 : w2.heap[w.heap.size]? = some (.cells (hv L) 26 (0, 0)) := by rw [hb2.block _ (by omega)]; exact g1
  have hB2 : Below w.heap.size w w2 := hB1.trans (hb2.mono (by omega))
  clear hb2 F1 g1 hB1
  go_wp2_with (refine wl_store26 rfl _ _ rfl w2.heap.size G rfl rfl _ (heap_new _ _ _ rfl) rfl hG _ (setRow_new _ _ _ _ _ rfl) ?_)
  obtain ⟨W, hW⟩ : ∃ W, W = w2.alloc (Obj.cells (hv G) 26) := ⟨_, rfl⟩
  have gL : W.heap[w.heap.size]? = some (.cells (hv L) 26 (0, 0)) := by rw [hW]; exact heap_past _ _ _ _ g2
  have gG : W.heap[w2.heap.size]? = some (.cells (hv G) 26 (0, 0)) := by rw [hW]; exact heap_new _ _ _ rfl
  have hB3 : Below w.heap.size w W := by rw [hW]; exact hB2.alloc hB2.size _
  rw [← hW]
  clear hW g2 hB2
  have ne1 := Later.ne W
  refine wp_region_later (by kernel_rfl) (by kernel_rfl) ?_
  refine ql26 rfl _ rfl w.heap.size rfl L gL hL ?_
  simp only [Act.put, List.setIfInBounds_toArray, List.set_cons_succ, List.set_cons_zero]
  go_big_quiet_step (fail)
  go_big_quiet_want; go_big_quiet_op
  refine ⟨_, fun u => Calls.later_of (B1.out u.world), ?_⟩
  go_big_quiet_on
  refine ql26 rfl _ rfl w.heap.size rfl L gL hL ?_
  simp only [Act.put, List.setIfInBounds_toArray, List.set_cons_succ, List.set_cons_zero]
  go_big_quiet_step (fail)
  go_big_quiet_want; go_big_quiet_op
  refine ⟨_, fun u => Calls.later_of (B2.out u.world), ?_⟩
  go_big_quiet_on
  go_big_quiet_step (fail)
  go_big_quiet_step (fail)
  refine ql26 rfl _ rfl w2.heap.size rfl G gG hG ?_
  simp only [Act.put, List.setIfInBounds_toArray, List.set_cons_succ, List.set_cons_zero]
  go_big_quiet_step (fail)
  go_big_quiet_want; go_big_quiet_op
  refine ⟨_, fun u => Calls.later_of (F2.out u.world), ?_⟩
  go_big_quiet_on
  refine ql26 rfl _ rfl w.heap.size rfl L gL hL ?_
  simp only [Act.put, List.setIfInBounds_toArray, List.set_cons_succ, List.set_cons_zero]
  go_big_quiet_step (fail)
  go_big_quiet_step (fail)
  go_big_quiet_step (fail)
  go_big_quiet_step (fail)
  refine ql26 rfl _ rfl w2.heap.size rfl G gG hG ?_
  simp only [Act.put, List.setIfInBounds_toArray, List.set_cons_succ, List.set_cons_zero]
  refine ql26 rfl _ rfl w.heap.size rfl L gL hL ?_
  simp only [Act.put, List.setIfInBounds_toArray, List.set_cons_succ, List.set_cons_zero]
  go_big_quiet_step (fail)
  go_big_quiet_step (fail)
  go_big_quiet_step (fail)
  refine wpQuiet_nil ?_
  rintro w' ⟨u, rfl⟩
  obtain ⟨V, hV⟩ : ∃ V, V = u.world := ⟨_, rfl⟩
  have gL2 : V.heap[w.heap.size]? = some (.cells (hv L) 26 (0, 0)) := by rw [hV]; exact later_block gL _ ⟨u, rfl⟩
  have gG2 : V.heap[w2.heap.size]? = some (.cells (hv G) 26 (0, 0)) := by rw [hV]; exact later_block gG _ ⟨u, rfl⟩
  have hB4 : Below w.heap.size w V := by rw [hV]; exact hB3.trans (u.below.mono hB3.size)
  rw [← hV]
  clear hV gL gG hB3
  go_wp2
  have ne2 := Later.ne V
  refine wp_region_later (by kernel_rfl) (by kernel_rfl) ?_
  refine ql26 rfl _ rfl w2.heap.size rfl G gG2 hG ?_
  simp only [Act.put, List.setIfInBounds_toArray, List.set_cons_succ, List.set_cons_zero]
  go_big_quiet_step (fail)
  go_big_quiet_want; go_big_quiet_op
  refine ⟨_, fun u => Calls.later_of (GK.out u.world), ?_⟩
  go_big_quiet_on
  refine ql26 rfl _ rfl w.heap.size rfl L gL2 hL ?_
  simp only [Act.put, List.setIfInBounds_toArray, List.set_cons_succ, List.set_cons_zero]
  go_big_quiet_step (fail)
  go_big_quiet_want; go_big_quiet_op
  refine ⟨_, fun u => Calls.later_of (BK.out u.world), ?_⟩
  go_big_quiet_on
  repeat go_big_quiet_step (fail)
  refine wpQuiet_nil ?_
  rintro w' ⟨u2, rfl⟩
  go_wp2
  go_ret
  refine ⟨ret_bool ?_, hB4.trans (u2.below.mono hB4.size)⟩
  rw [HC.out]
  cases c <;> simp

set_option maxHeartbeats 2000000 in
theorem lawBits_hi (L G : List Int) (hL : L.length = 13) (hG : G.length = 13) (i k : Int) (b c c' : Bool) (w : World) (hT : Laid w)
    (h0 : 0 ≤ i) (h1 : 104 ≤ i)
    (hF1 : ∀ W, Calls Tryd.prog 19 #[.agg (hv L), .int .i64 i] W fun e w' => e = .returned (.agg (hv G)) ∧ Below W.heap.size W w')
    (hF2 : ∀ W, Calls Tryd.prog 19 #[.agg (hv G), .int .i64 i] W fun e w' => e = .returned (.agg (hv L)) ∧ Below W.heap.size W w')
    (hb1 : ∀ W, Calls Tryd.prog 20 #[.agg (hv L), .int .i64 i] W fun e w' => e = .returned (.bool b) ∧ Below W.heap.size W w')
    (hb2 : ∀ W, Calls Tryd.prog 21 #[.agg (hv L), .int .i64 i] W fun e w' => e = .returned (.bool b) ∧ Below W.heap.size W w')
    (hbk : ∀ W, Calls Tryd.prog 20 #[.agg (hv L), .int .i64 k] W fun e w' => e = .returned (.bool c) ∧ Below W.heap.size W w')
    (hgk : ∀ W, Calls Tryd.prog 20 #[.agg (hv G), .int .i64 k] W fun e w' => e = .returned (.bool c') ∧ Below W.heap.size W w')
    (hne : (G == L) = true) (hc : c' = (c != (false && decide (i = k)))) :
    Calls Tryd.prog 5 #[.agg (hv L), .int .i64 i, .int .i64 k] w fun e w' => e = .returned (.bool true) ∧ Below w.heap.size w w' := by
  have hsz := hT.size
  have HT : Hid (Laid w) := hT
  have F1 : Hid _ := hF1
  have F2 : Hid _ := hF2
  have B1 : Hid _ := hb1
  have B2 : Hid _ := hb2
  have BK : Hid _ := hbk
  have GK : Hid _ := hgk
  have HC : Hid (c' = (c != (false && decide (i = k)))) := hc
  have e1 : ∀ w, (Op.equalIn 10000 26 (.agg (hv L)) (.agg (hv L))).run Tryd.prog w = .ok true w := fun w => by rw [eq26 L L hL hL]; simp
  have e2 : ∀ w, (Op.equalIn 10000 26 (.agg (hv G)) (.agg (hv L))).run Tryd.prog w = .ok true w := fun w => by rw [eq26 G L hG hL, hne]
  have eg : ∀ op x y (xs ys : Array Value) w, (eqGuard op 26 x y (.agg xs) (.agg ys)).run Tryd.prog w = .ok () w := fun op x y xs ys w => run_eqGuard_agg w op 26 x y xs ys (by kernel_rfl)
  clear hT hF1 hF2 hb1 hb2 hbk hgk hc hne
  have hd : decide (i < 104) = false := decide_eq_false (by omega)
  go_enter Tryd.func5, Tryd.ntmps5
  go_wp2_with fail
  refine (awake_any _ (HT.out.later hsz ((Below.refl _ _).alloc (Nat.le_refl _) _))).mono ?_
  rintro e w1 ⟨rfl, hb1⟩
  have hz1 := hb1.size
  rw [World.size_alloc] at hz1
  have g1 : w1.heap[w.heap.size]? = some (.cells (hv L) 26 (0, 0)) := by rw [hb1.block _ (by simp)]; exact heap_new _ _ _ rfl
  have hB1 : Below w.heap.size w w1 := ((Below.refl _ _).alloc (Nat.le_refl _) _).trans (hb1.mono (by simp))
  clear hb1 HT
  go_wp2_with (refine wl_load26 rfl _ rfl w.heap.size rfl L g1 hL ?_)
  refine (F1.out _).mono ?_
  rintro e w2 ⟨rfl, hb2⟩
  have hz2 := hb2.size
  have g2 : w2.heap[w.heap.size]? = some (.cells (hv L) 26 (0, 0)) := by rw [hb2.block _ (by omega)]; exact g1
  have hB2 : Below w.heap.size w w2 := hB1.trans (hb2.mono (by omega))
  clear hb2 F1 g1 hB1
  go_wp2_with (refine wl_store26 rfl _ _ rfl w2.heap.size G rfl rfl _ (heap_new _ _ _ rfl) rfl hG _ (setRow_new _ _ _ _ _ rfl) ?_)
  obtain ⟨W, hW⟩ : ∃ W, W = w2.alloc (Obj.cells (hv G) 26) := ⟨_, rfl⟩
  have gL : W.heap[w.heap.size]? = some (.cells (hv L) 26 (0, 0)) := by rw [hW]; exact heap_past _ _ _ _ g2
  have gG : W.heap[w2.heap.size]? = some (.cells (hv G) 26 (0, 0)) := by rw [hW]; exact heap_new _ _ _ rfl
  have hB3 : Below w.heap.size w W := by rw [hW]; exact hB2.alloc hB2.size _
  rw [← hW]
  clear hW g2 hB2
  have ne1 := Later.ne W
  refine wp_region_later (by kernel_rfl) (by kernel_rfl) ?_
  refine ql26 rfl _ rfl w.heap.size rfl L gL hL ?_
  simp only [Act.put, List.setIfInBounds_toArray, List.set_cons_succ, List.set_cons_zero]
  go_big_quiet_step (fail)
  go_big_quiet_want; go_big_quiet_op
  refine ⟨_, fun u => Calls.later_of (B1.out u.world), ?_⟩
  go_big_quiet_on
  refine ql26 rfl _ rfl w.heap.size rfl L gL hL ?_
  simp only [Act.put, List.setIfInBounds_toArray, List.set_cons_succ, List.set_cons_zero]
  go_big_quiet_step (fail)
  go_big_quiet_want; go_big_quiet_op
  refine ⟨_, fun u => Calls.later_of (B2.out u.world), ?_⟩
  go_big_quiet_on
  go_big_quiet_step (fail)
  go_big_quiet_step (fail)
  refine ql26 rfl _ rfl w2.heap.size rfl G gG hG ?_
  simp only [Act.put, List.setIfInBounds_toArray, List.set_cons_succ, List.set_cons_zero]
  go_big_quiet_step (fail)
  go_big_quiet_want; go_big_quiet_op
  refine ⟨_, fun u => Calls.later_of (F2.out u.world), ?_⟩
  go_big_quiet_on
  refine ql26 rfl _ rfl w.heap.size rfl L gL hL ?_
  simp only [Act.put, List.setIfInBounds_toArray, List.set_cons_succ, List.set_cons_zero]
  go_big_quiet_step (fail)
  go_big_quiet_step (fail)
  go_big_quiet_step (fail)
  go_big_quiet_step (fail)
  refine ql26 rfl _ rfl w2.heap.size rfl G gG hG ?_
  simp only [Act.put, List.setIfInBounds_toArray, List.set_cons_succ, List.set_cons_zero]
  refine ql26 rfl _ rfl w.heap.size rfl L gL hL ?_
  simp only [Act.put, List.setIfInBounds_toArray, List.set_cons_succ, List.set_cons_zero]
  go_big_quiet_step (fail)
  go_big_quiet_step (fail)
  go_big_quiet_step (fail)
  refine wpQuiet_nil ?_
  rintro w' ⟨u, rfl⟩
  obtain ⟨V, hV⟩ : ∃ V, V = u.world := ⟨_, rfl⟩
  have gL2 : V.heap[w.heap.size]? = some (.cells (hv L) 26 (0, 0)) := by rw [hV]; exact later_block gL _ ⟨u, rfl⟩
  have gG2 : V.heap[w2.heap.size]? = some (.cells (hv G) 26 (0, 0)) := by rw [hV]; exact later_block gG _ ⟨u, rfl⟩
  have hB4 : Below w.heap.size w V := by rw [hV]; exact hB3.trans (u.below.mono hB3.size)
  rw [← hV]
  clear hV gL gG hB3
  go_wp2
  have ne2 := Later.ne V
  refine wp_region_later (by kernel_rfl) (by kernel_rfl) ?_
  refine ql26 rfl _ rfl w2.heap.size rfl G gG2 hG ?_
  simp only [Act.put, List.setIfInBounds_toArray, List.set_cons_succ, List.set_cons_zero]
  go_big_quiet_step (fail)
  go_big_quiet_want; go_big_quiet_op
  refine ⟨_, fun u => Calls.later_of (GK.out u.world), ?_⟩
  go_big_quiet_on
  refine ql26 rfl _ rfl w.heap.size rfl L gL2 hL ?_
  simp only [Act.put, List.setIfInBounds_toArray, List.set_cons_succ, List.set_cons_zero]
  go_big_quiet_step (fail)
  go_big_quiet_want; go_big_quiet_op
  refine ⟨_, fun u => Calls.later_of (BK.out u.world), ?_⟩
  go_big_quiet_on
  repeat go_big_quiet_step (fail)
  refine wpQuiet_nil ?_
  rintro w' ⟨u2, rfl⟩
  go_wp2
  go_ret
  refine ⟨ret_bool ?_, hB4.trans (u2.below.mono hB4.size)⟩
  rw [HC.out]
  cases c <;> simp

theorem lawBits_any (L : List Int) (hL : Byt L) (i k : Int) (w : World) (hT : Laid w) :
    Calls Tryd.prog 5 #[.agg (hv L), .int .i64 i, .int .i64 k] w fun e w' => e = .returned (.bool true) ∧ Below w.heap.size w w' := by
  have hG := flip_byt L hL i
  have hff := flip_flip L hL i
  have hF2 : ∀ W, Calls Tryd.prog 19 #[.agg (hv (flipL L i)), .int .i64 i] W fun e w' => e = .returned (.agg (hv L)) ∧ Below W.heap.size W w' := fun W => by
    have h := flip_any (flipL L i) hG i W
    rw [hff] at h; exact h
  have hn := flip_ne L hL i
  have hc := flip_bit L hL i k
  by_cases h0 : 0 ≤ i
  · by_cases h1 : i < 104
    · rw [decide_eq_true ⟨h0, h1⟩] at hn hc
      exact lawBits_in L (flipL L i) hL.1 hG.1 i k (bitB L i) (bitB L k) (bitB (flipL L i) k) w hT h0 h1 (flip_any L hL i) hF2 (bit_any L hL i) (refBit_any L hL i) (bit_any L hL k) (bit_any _ hG k) (by simpa using hn) hc
    · rw [decide_eq_false (fun h => h1 h.2)] at hn hc
      exact lawBits_hi L (flipL L i) hL.1 hG.1 i k (bitB L i) (bitB L k) (bitB (flipL L i) k) w hT h0 (by omega) (flip_any L hL i) hF2 (bit_any L hL i) (refBit_any L hL i) (bit_any L hL k) (bit_any _ hG k) (by simpa using hn) hc
  · rw [decide_eq_false (fun h => h0 h.1)] at hn hc
    exact lawBits_lo L (flipL L i) hL.1 hG.1 i k (bitB L i) (bitB L k) (bitB (flipL L i) k) w hT (by omega) (flip_any L hL i) hF2 (bit_any L hL i) (refBit_any L hL i) (bit_any L hL k) (bit_any _ hG k) (by simpa using hn) hc
end Go.Proofs.YtjfbahpaahlidaaDoor
