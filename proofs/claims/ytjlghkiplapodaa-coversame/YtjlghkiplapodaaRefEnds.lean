import Derived.Test.YtjlghkiplapodaaRefCanon
import Derived.Test.YtjlghkiplapodaaEnds
namespace Go.Proofs.Ytjlghkiplapodaa
open Go Go.RowKit

theorem wl_zeroH {ops : Array Oper} {rest : List Oper} {o : Oper} {a : Act} {w : World} {Q : Exit → Act → World → Prop} (hg : o.guard = none) (ho : o.op = .build 24 #[])
    (h : wpList Try.prog ops Q rest (a.put o.dst (.agg (hv Z))) w) : wpList Try.prog ops Q (o :: rest) a w :=
  wpList_plain hg fun _ hK => by
    unfold Oper.wp execOp
    have e : ((#[] : Array (Nat × Operand)).map (fun (i, x) => (i, a.eval x))) = #[] := by simp
    have hb : (Instr.build 24 #[]).run Try.prog w = .ok (.agg (hv Z)) w := by
      rw [← zero26_eq]; kernel_rfl
    simp only [ho, Sem.run_bind]
    rw [e, hb]
    exact hK _ _ h

set_option maxHeartbeats 4000000 in
theorem rends_any (V M : List Int) (hV : Byt V) (hM : Byt M) (w : World) :
    Calls Try.prog 37 #[.agg (cv V M)] w fun e w' => e = .returned (.tuple #[.agg (hv (can V M)), .agg (hv (top V M))]) ∧ Below w.heap.size w w' := by
  have hVl := hV.1
  have hMl := hM.1
  have hzl := Z_byt.1
  obtain ⟨fA, hfA⟩ : ∃ f : Nat → Bool, f = fun i => bt V i && bt M i := ⟨_, rfl⟩
  obtain ⟨fB, hfB⟩ : ∃ f : Nat → Bool, f = fun i => (bt V i && bt M i) || !(bt M i) := ⟨_, rfl⟩
  have CA : Hid (∀ k : Nat, k < 104 → ∀ W, Calls Try.prog 43 #[.agg (cv V M), .int .i64 (k : Int)] W fun e w' => e = .returned (.int .i64 (atI V M k)) ∧ Below W.heap.size W w') := fun k hk => at_any V M hV hM k hk
  have C1 : Hid (∀ k : Nat, k < 104 → ∀ W, Calls Try.prog 47 #[.agg (hv (upto k fA)), .int .i64 (k : Int), .bool (atI V M k == 1)] W fun e w' => e = .returned (.agg (hv (upto (k + 1) fA))) ∧ Below W.heap.size W w') := fun k hk => by
    have := rput_nat _ (upto_byt k fA) k hk (fA k)
    rw [upto_succ] at this
    rw [at_eq1, show (bt V k && bt M k) = fA k by rw [hfA]]
    exact this
  have C2 : Hid (∀ k : Nat, k < 104 → ∀ W, Calls Try.prog 47 #[.agg (hv (upto k fB)), .int .i64 (k : Int), .bool (atI V M k != 0)] W fun e w' => e = .returned (.agg (hv (upto (k + 1) fB))) ∧ Below W.heap.size W w') := fun k hk => by
    have := rput_nat _ (upto_byt k fB) k hk (fB k)
    rw [upto_succ] at this
    rw [at_ne0, show ((bt V k && bt M k) || !(bt M k)) = fB k by rw [hfB]]
    exact this
  have HE : Hid (upto 104 fA = can V M ∧ upto 104 fB = top V M) := by
    show _ ∧ _
    rw [upto_all, upto_all, hfA, hfB]; exact ⟨rfl, rfl⟩
  clear hV hM hfA hfB
  have lA : ∀ k, (upto k fA).length = 13 := fun k => (upto_byt k fA).1
  have lB : ∀ k, (upto k fB).length = 13 := fun k => (upto_byt k fB).1
  go_enter Try.func37, Try.ntmps37
  go_wp2_with (first
    | (refine wl_zeroH rfl rfl ?_)
    | (refine wl_store26 rfl _ _ rfl (w.heap.size + 3) Z rfl rfl _ (heap_new _ _ _ (by simp)) rfl hzl _ (setRow_new _ _ _ _ _ (by simp)) ?_)
    | (refine wl_store26 rfl _ _ rfl (w.heap.size + 4) Z rfl rfl _ (heap_new _ _ _ (by simp)) rfl hzl _ (setRow_new _ _ _ _ _ (by simp)) ?_))
  go_loopw [6] (fun i wr => ∃ k : Nat, k ≤ 104 ∧ i = .int .i64 k ∧ wr.heap[w.heap.size]? = some (.cells (cv V M) 30 (0, 0)) ∧ wr.heap[w.heap.size + 1]? = some (.cells zero26 24 (0, 0)) ∧ wr.heap[w.heap.size + 2]? = some (.cells zero26 24 (0, 0)) ∧ wr.heap[w.heap.size + 3]? = some (.cells (hv (upto k fA)) 24 (0, 0)) ∧ wr.heap[w.heap.size + 4]? = some (.cells (hv (upto k fB)) 24 (0, 0)) ∧ Below w.heap.size w wr) (fun i _ => 104 - (intOf i).toNat)
  case atStart =>
    exact ⟨0, Nat.zero_le _, rfl, heap_past _ _ _ _ (heap_past _ _ _ _ (heap_past _ _ _ _ (heap_past _ _ _ _ (heap_new _ _ _ rfl)))), heap_past _ _ _ _ (heap_past _ _ _ _ (heap_past _ _ _ _ (heap_new _ _ _ (by simp)))), heap_past _ _ _ _ (heap_past _ _ _ _ (heap_new _ _ _ (by simp))), by rw [upto_zero]; exact heap_past _ _ _ _ (heap_new _ _ _ (by simp)), by rw [upto_zero]; exact heap_new _ _ _ (by simp),
      (((((Below.refl _ _).alloc (Nat.le_refl _) _).alloc (by simp) _).alloc (by simp; omega) _).alloc (by simp; omega) _).alloc (by simp; omega) _⟩
  case round =>
    obtain ⟨k, hk, rfl, g0, g1, g2, g3, g4, hb⟩ := hrel
    have l1 := lA k
    have l2 := lA (k + 1)
    have l3 := lB k
    have l4 := lB (k + 1)
    by_cases hlt : k < 104
    · have D0 : Hid (∀ W, Calls Try.prog 43 #[.agg (cv V M), .int .i64 (k : Int)] W fun e w' => e = .returned (.int .i64 (atI V M k)) ∧ Below W.heap.size W w') := CA.out k hlt
      have D1 : Hid (∀ W, Calls Try.prog 47 #[.agg (hv (upto k fA)), .int .i64 (k : Int), .bool (atI V M k == 1)] W fun e w' => e = .returned (.agg (hv (upto (k + 1) fA))) ∧ Below W.heap.size W w') := C1.out k hlt
      have D2 : Hid (∀ W, Calls Try.prog 47 #[.agg (hv (upto k fB)), .int .i64 (k : Int), .bool (atI V M k != 0)] W fun e w' => e = .returned (.agg (hv (upto (k + 1) fB))) ∧ Below W.heap.size W w') := C2.out k hlt
      go_wp2_with fail
      have ne1 := Later.ne wr
      refine wp_region_latertail 7 (by kernel_rfl) (by kernel_rfl) ?_
      simp only [List.take_succ_cons, List.take_zero, List.drop_succ_cons, List.drop_zero]
      refine qlH rfl _ rfl (w.heap.size + 3) rfl (upto k fA) g3 l1 ?_
      simp only [Act.put, List.setIfInBounds_toArray, List.set_cons_succ, List.set_cons_zero]
      go_big_quiet_step (fail)
      refine qlC rfl _ rfl w.heap.size rfl V M g0 hVl hMl ?_
      simp only [Act.put, List.setIfInBounds_toArray, List.set_cons_succ, List.set_cons_zero]
      go_big_quiet_step (fail)
      go_big_quiet_want; go_big_quiet_op
      refine ⟨_, fun u => Calls.later_of (D0.out u.world), ?_⟩
      go_big_quiet_on
      go_big_quiet_step (fail)
      go_big_quiet_want; go_big_quiet_op
      refine ⟨_, fun u => Calls.later_of (D1.out u.world), ?_⟩
      go_big_quiet_on
      refine wpQuiet_nil ?_
      rintro w' ⟨u, rfl⟩
      obtain ⟨W1, hW1⟩ : ∃ W1, W1 = u.world := ⟨_, rfl⟩
      have k0 : W1.heap[w.heap.size]? = some (.cells (cv V M) 30 (0, 0)) := by rw [hW1]; exact later_block g0 _ ⟨u, rfl⟩
      have k1 : W1.heap[w.heap.size + 1]? = some (.cells zero26 24 (0, 0)) := by rw [hW1]; exact later_block g1 _ ⟨u, rfl⟩
      have k2 : W1.heap[w.heap.size + 2]? = some (.cells zero26 24 (0, 0)) := by rw [hW1]; exact later_block g2 _ ⟨u, rfl⟩
      have k3 : W1.heap[w.heap.size + 3]? = some (.cells (hv (upto k fA)) 24 (0, 0)) := by rw [hW1]; exact later_block g3 _ ⟨u, rfl⟩
      have k4 : W1.heap[w.heap.size + 4]? = some (.cells (hv (upto k fB)) 24 (0, 0)) := by rw [hW1]; exact later_block g4 _ ⟨u, rfl⟩
      have hb2 : Below w.heap.size w W1 := by rw [hW1]; exact hb.trans (u.below.mono hb.size)
      rw [← hW1]
      clear hW1 g0 g1 g2 g3 g4 hb ne1 D1
      have m0 := (setRow_other W1 (w.heap.size + 3) w.heap.size (hv (upto (k + 1) fA)) (by omega)).trans k0
      have m1 := (setRow_other W1 (w.heap.size + 3) (w.heap.size + 1) (hv (upto (k + 1) fA)) (by omega)).trans k1
      have m2 := (setRow_other W1 (w.heap.size + 3) (w.heap.size + 2) (hv (upto (k + 1) fA)) (by omega)).trans k2
      have m3 := setRow_heap _ _ _ (hv (upto (k + 1) fA)) _ _ k3
      have m4 := (setRow_other W1 (w.heap.size + 3) (w.heap.size + 4) (hv (upto (k + 1) fA)) (by omega)).trans k4
      have hb3 := below_setRow hb2 (show w.heap.size ≤ w.heap.size + 3 by omega) (hv (upto (k + 1) fA))
      obtain ⟨W2, hW2⟩ : ∃ W2, W2 = W1.setRow (w.heap.size + 3) (hv (upto (k + 1) fA)) := ⟨_, rfl⟩
      go_wp2_with (first
        | (refine wl_store26 rfl _ _ rfl (w.heap.size + 3) (upto (k + 1) fA) rfl rfl _ k3 (by rw [hv_size, l1]) l2 _ hW2.symm ?_))
      rw [← hW2] at m0 m1 m2 m3 m4 hb3
      clear hW2 k0 k1 k2 k3 k4 hb2
      have ne2 := Later.ne W2
      refine wp_region_latertail 7 (by kernel_rfl) (by kernel_rfl) ?_
      simp only [List.take_succ_cons, List.take_zero, List.drop_succ_cons, List.drop_zero]
      refine qlH rfl _ rfl (w.heap.size + 4) rfl (upto k fB) m4 l3 ?_
      simp only [Act.put, List.setIfInBounds_toArray, List.set_cons_succ, List.set_cons_zero]
      go_big_quiet_step (fail)
      refine qlC rfl _ rfl w.heap.size rfl V M m0 hVl hMl ?_
      simp only [Act.put, List.setIfInBounds_toArray, List.set_cons_succ, List.set_cons_zero]
      go_big_quiet_step (fail)
      go_big_quiet_want; go_big_quiet_op
      refine ⟨_, fun u => Calls.later_of (D0.out u.world), ?_⟩
      go_big_quiet_on
      go_big_quiet_step (fail)
      go_big_quiet_want; go_big_quiet_op
      refine ⟨_, fun u => Calls.later_of (D2.out u.world), ?_⟩
      go_big_quiet_on
      refine wpQuiet_nil ?_
      rintro w' ⟨u2, rfl⟩
      have p0 := later_block m0 _ ⟨u2, rfl⟩
      have p1 := later_block m1 _ ⟨u2, rfl⟩
      have p2 := later_block m2 _ ⟨u2, rfl⟩
      have p3 := later_block m3 _ ⟨u2, rfl⟩
      have p4 := later_block m4 _ ⟨u2, rfl⟩
      have hb4 := hb3.trans (u2.below.mono hb3.size)
      clear m0 m1 m2 m3 m4 hb3 ne2
      go_wp2_with (first
        | (refine wl_store26 rfl _ _ rfl (w.heap.size + 4) (upto (k + 1) fB) rfl rfl _ p4 (by rw [hv_size, l3]) l4 _ rfl ?_))
      go_roundw
      case rel =>
        exact ⟨k + 1, by omega, by go_num, (setRow_other _ _ _ _ (by omega)).trans p0, (setRow_other _ _ _ _ (by omega)).trans p1, (setRow_other _ _ _ _ (by omega)).trans p2, (setRow_other _ _ _ _ (by omega)).trans p3, setRow_heap _ _ _ _ _ _ p4, below_setRow hb4 (by omega) _⟩
      case measure => simp [intOf]; omega
    · obtain rfl : k = 104 := by omega
      rw [HE.out.1] at g3
      rw [HE.out.2] at g4
      have hCl := (can_byt V M).1
      have hTl := (top_byt V M).1
      have s1 := heap_drew g1
      have s2 := heap_drew g2
      have s3 := heap_drew g3
      have s4 := heap_drew g4
      have hB6 := hb.drew
      clear g0 g1 g2 g3 g4 hb HE CA C1 C2 lA lB l1 l2 l3 l4
      have h1 := (setRow_heap _ _ _ (hv (can V M)) _ _ s1)
      have h2 := (setRow_other _ (w.heap.size + 1) (w.heap.size + 2) (hv (can V M)) (by omega)).trans s2
      have h4 := (setRow_other _ (w.heap.size + 1) (w.heap.size + 4) (hv (can V M)) (by omega)).trans s4
      have k1 := (setRow_other _ (w.heap.size + 2) (w.heap.size + 1) (hv (top V M)) (by omega)).trans h1
      have k2 := (setRow_heap _ _ _ (hv (top V M)) _ _ h2)
      go_wp2_with fail
      refine wp_region_two (v0 := .agg (hv (can V M))) (v1 := .agg (hv (top V M))) (w' := wr.drew.setRow (w.heap.size + 1) (hv (can V M))) (by kernel_rfl) (by kernel_rfl) rfl rfl rfl rfl
        (run_loadH _ _ _ _ rfl (w.heap.size + 3) rfl _ s3 hCl) (run_loadH _ _ _ _ rfl (w.heap.size + 3) rfl _ s3 hCl) (run_loadH _ _ _ _ rfl (w.heap.size + 4) rfl _ s4 hTl) (run_loadH _ _ _ _ rfl (w.heap.size + 4) rfl _ s4 hTl) (run_loadH _ _ _ _ rfl (w.heap.size + 4) rfl _ h4 hTl)
        (run_storeH _ _ _ _ _ rfl (w.heap.size + 1) _ rfl rfl _ s1 rfl hCl) (run_storeH _ _ _ _ _ rfl (w.heap.size + 1) _ rfl rfl _ s1 rfl hCl) rfl ?_
      simp only [Act.put, List.setIfInBounds_toArray, List.set_cons_succ, List.set_cons_zero]
      go_wp2_with (first
        | (refine wl_store26 rfl _ _ rfl (w.heap.size + 2) (top V M) rfl rfl _ h2 rfl hTl _ rfl ?_))
      refine retHH (p := 2) (q := 3) rfl rfl (w.heap.size + 1) (w.heap.size + 2) rfl rfl _ _ hCl hTl k1 k2 ⟨rfl, ?_⟩
      exact below_setRow (below_setRow hB6 (by omega) _) (by omega) _

/-- How many of the first k bits are free. -/
def freeN (M : List Int) : Nat → Int
  | 0 => 0
  | k + 1 => if bt M k then freeN M k else freeN M k + 1
theorem freeN_bd (M : List Int) : ∀ k, 0 ≤ freeN M k ∧ freeN M k ≤ k
  | 0 => by simp [freeN]
  | k + 1 => by
    have := freeN_bd M k
    unfold freeN
    split <;> omega
theorem freeN_eq (M : List Int) : ∀ k, freeN M k = (((List.range k).filter fun i => !(bt M i)).length : Int)
  | 0 => rfl
  | k + 1 => by
    rw [List.range_succ, List.filter_append, List.length_append, freeN, freeN_eq M k]
    cases h : bt M k <;> simp [h]

end Go.Proofs.Ytjlghkiplapodaa
