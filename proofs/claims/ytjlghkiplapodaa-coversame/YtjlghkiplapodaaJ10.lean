import Derived.Test.YtjlghkiplapodaaJ9
import Derived.Test.YtjlghkiplapodaaJ6
import Derived.Test.YtjlghkiplapodaaJ5
import Derived.Test.YtjlghkiplapodaaJ2
namespace Go.Proofs.Ytjlghkiplapodaa
open Go Go.RowKit

/-- The end of a function whose results are two headers in memory. -/
theorem retHH {fn : Func} {R : Ending → World → Prop} {a : Act} {w : World} {p q : Tmp} (hr : fn.results = #[.cell p 24, .cell q 24]) (hd : a.defers = []) (g g' : Nat) (hp : a.tmps.getD p undef = .pointer (some ⟨g, 0, none⟩)) (hq : a.tmps.getD q undef = .pointer (some ⟨g', 0, none⟩)) (A B : List Int) (hA : A.length = 13) (hB : B.length = 13)
    (hg : w.heap[g]? = some (.cells (hv A) 24 (0, 0))) (hg' : w.heap[g']? = some (.cells (hv B) 24 (0, 0))) (h : R (.returned (.tuple #[.agg (hv A), .agg (hv B)])) w) : bodyPost Try.prog fn R .ret a w := by
  refine bodyPost_ret (v := .tuple #[.agg (hv A), .agg (hv B)]) ?_ hd h
  simp only [results, hr]
  have hp' : a.tmps[p]?.getD undef = .pointer (some ⟨g, 0, none⟩) := by simpa using hp
  have hq' : a.tmps[q]?.getD undef = .pointer (some ⟨g', 0, none⟩) := by simpa using hq
  simp [Sem.run_bind, hp', hq', asAddr, run_loadVar_row w g 24 24 (hv A) (0, 0) _ hg Try.underlying24 rfl (size26 A hA), run_loadVar_row w g' 24 24 (hv B) (0, 0) _ hg' Try.underlying24 rfl (size26 B hB)]

/-- The greatest header of a cube. -/
def top (V M : List Int) : List Int := mk fun i => (bt V i && bt M i) || !(bt M i)
theorem top_byt (V M : List Int) : Byt (top V M) := mk_byt _
theorem top_bt (V M : List Int) (i : Nat) (hi : i < 104) : bt (top V M) i = ((bt V i && bt M i) || !(bt M i)) := mk_bt _ i hi

theorem field_val (V M : List Int) (hV : V.length = 13) (w : World) : (Instr.field 30 (.agg (cv V M)) 0).run Try.prog w = .ok (.agg (hv V)) w := by
  have hp := part_val V M hV
  simp [Instr.field, run_underlying Try.underlying30, asAgg, hp]

set_option maxHeartbeats 4000000 in
theorem ends_any (V M : List Int) (hV : Byt V) (hM : Byt M) (w : World) :
    Calls Try.prog 35 #[.agg (cv V M)] w fun e w' => e = .returned (.tuple #[.agg (hv (can V M)), .agg (hv (top V M))]) ∧ Below w.heap.size w w' := by
  have hVl := hV.1
  have hMl := hM.1
  have hCl := (can_byt V M).1
  have C1 : Hid (∀ W, Calls Try.prog 30 #[.agg (cv V M)] W fun e w' => e = .returned (.agg (cv (can V M) M)) ∧ Below W.heap.size W w') := canon_any V M hV hM
  have HM : Hid (Byt M) := hM
  have hfv : ∀ w, (Instr.field 30 (.agg (cv (can V M) M)) 0).run Try.prog w = .ok (.agg (hv (can V M))) w := field_val _ _ hCl
  clear hV hM
  go_enter Try.func35, Try.ntmps35
  have g0 : (((w.alloc (.cells (cv V M) 30)).alloc (.cells zero26 24)).alloc (.cells zero26 24)).heap[w.heap.size]? = some (.cells (cv V M) 30 (0, 0)) := heap_past _ _ _ _ (heap_past _ _ _ _ (heap_new _ _ _ rfl))
  have g1 : (((w.alloc (.cells (cv V M) 30)).alloc (.cells zero26 24)).alloc (.cells zero26 24)).heap[w.heap.size + 1]? = some (.cells zero26 24 (0, 0)) := heap_past _ _ _ _ (heap_new _ _ _ (by simp))
  have g2 : (((w.alloc (.cells (cv V M) 30)).alloc (.cells zero26 24)).alloc (.cells zero26 24)).heap[w.heap.size + 2]? = some (.cells zero26 24 (0, 0)) := heap_new _ _ _ (by simp)
  have hb : Below w.heap.size w (((w.alloc (.cells (cv V M) 30)).alloc (.cells zero26 24)).alloc (.cells zero26 24)) := (((Below.refl _ _).alloc (Nat.le_refl _) _).alloc (by simp) _).alloc (by simp; omega) _
  go_wp2_with (first
    | (refine wl_loadC rfl _ rfl w.heap.size rfl V M g0 hVl hMl ?_))
  refine (C1.out _).mono ?_
  rintro e w1 ⟨rfl, hb1⟩
  have k0 : w1.heap[w.heap.size]? = some (.cells (cv V M) 30 (0, 0)) := by rw [hb1.block _ (by simp; omega)]; exact g0
  have k1 : w1.heap[w.heap.size + 1]? = some (.cells zero26 24 (0, 0)) := by rw [hb1.block _ (by simp)]; exact g1
  have k2 : w1.heap[w.heap.size + 2]? = some (.cells zero26 24 (0, 0)) := by rw [hb1.block _ (by simp)]; exact g2
  have hB1 := hb.trans (hb1.mono hb.size)
  have hz1 : w.heap.size + 3 ≤ w1.heap.size := Nat.le_trans (by simp) hb1.size
  clear g0 g1 g2 hb hb1 C1
  have l0 := heap_past (w1.alloc (.cells (hv (can V M)) 24)) (.cells (hv (can V M)) 24) _ _ (heap_past w1 (.cells (hv (can V M)) 24) _ _ k0)
  have l1 := heap_past (w1.alloc (.cells (hv (can V M)) 24)) (.cells (hv (can V M)) 24) _ _ (heap_past w1 (.cells (hv (can V M)) 24) _ _ k1)
  have l2 := heap_past (w1.alloc (.cells (hv (can V M)) 24)) (.cells (hv (can V M)) 24) _ _ (heap_past w1 (.cells (hv (can V M)) 24) _ _ k2)
  have l3 := heap_past (w1.alloc (.cells (hv (can V M)) 24)) (.cells (hv (can V M)) 24) _ _ (heap_new w1 (.cells (hv (can V M)) 24) _ rfl)
  have l4 := heap_new (w1.alloc (.cells (hv (can V M)) 24)) (.cells (hv (can V M)) 24) (w1.heap.size + 1) (by simp)
  have hB2 := (hB1.alloc (by omega) (.cells (hv (can V M)) 24)).alloc (by simp; omega) (.cells (hv (can V M)) 24)
  have n0 := heap_past w1 (.cells (hv (can V M)) 24) _ _ k0
  go_wp2_with (first
    | (refine wl_store26 rfl _ _ rfl w1.heap.size (can V M) rfl rfl _ (heap_new _ _ _ rfl) rfl hCl _ (setRow_new _ _ _ _ _ rfl) ?_)
    | (refine wl_load26 rfl _ rfl w1.heap.size rfl (can V M) (heap_new _ _ _ rfl) hCl ?_)
    | (refine wl_store26 rfl _ _ rfl (w1.heap.size + 1) (can V M) rfl rfl _ (heap_new _ _ _ (by simp)) rfl hCl _ (setRow_new _ _ _ _ _ (by simp)) ?_)
    | (refine wl_loadM rfl _ rfl w.heap.size rfl V M l0 hVl hMl ?_))
  go_loopw [14] (fun i wr => ∃ k : Nat, k ≤ 13 ∧ i = .int .i64 k ∧ ∃ U : List Int, Byt U ∧ (∀ j, j < 13 → U.getD j 0 = if j < k then bits .or .u8 ((can V M).getD j 0) (bits .xor .u8 255 (M.getD j 0)) else (can V M).getD j 0) ∧ wr.heap[w.heap.size + 1]? = some (.cells zero26 24 (0, 0)) ∧ wr.heap[w.heap.size + 2]? = some (.cells zero26 24 (0, 0)) ∧ wr.heap[w1.heap.size]? = some (.cells (hv (can V M)) 24 (0, 0)) ∧ wr.heap[w1.heap.size + 1]? = some (.cells (hv U) 24 (0, 0)) ∧ Below w.heap.size w wr) (fun i _ => 13 - (intOf i).toNat)
  case atStart => exact ⟨0, Nat.zero_le _, rfl, can V M, can_byt V M, fun j _ => by simp, l1, l2, l3, l4, hB2⟩
  case round =>
    clear k0 k1 k2 hB1 l0 l1 l2 l3 l4 hB2 n0 hfv
    obtain ⟨k, hk, rfl, U, hU, hUj, g1, g2, g3, g4, hb⟩ := hrel
    have hUl := hU.1
    have HU : Hid (Byt U) := hU
    have HUJ : Hid (∀ j, j < 13 → U.getD j 0 = if j < k then bits .or .u8 ((can V M).getD j 0) (bits .xor .u8 255 (M.getD j 0)) else (can V M).getD j 0) := hUj
    clear hU hUj
    by_cases hlt : k < 13
    · obtain ⟨x, hx, hxe⟩ : ∃ x, (hv U)[k]? = some (.int .u8 x) ∧ x = U.getD k 0 := ⟨_, hv_at U hUl k hlt, rfl⟩
      obtain ⟨y, hye⟩ : ∃ y, y = M.getD k 0 := ⟨_, rfl⟩
      have hidx : ∀ w, (Instr.index 24 (.agg (hv M)) (.int .i64 (k : Int))).run Try.prog w = .ok (.int .u8 y) w := fun w => by rw [hye]; exact run_idx M hMl k hlt w
      have hx0 : wr.cell? ⟨w1.heap.size + 1, k, none⟩ = some (.int .u8 x) := by rw [cell_of_row wr _ _ _ _ _ g4]; exact hx
      have hf0 : wr.frozen? ⟨w1.heap.size + 1, k, none⟩ = false := frozen_of_row wr _ _ _ _ g4
      have HX : Hid (x = U.getD k 0) := hxe
      have HY : Hid (y = M.getD k 0) := hye
      clear hxe hye hx
      go_wp2_with fail
      go_roundw
      case rel =>
        rw [show (if IntKind.u8.signed = true then (-1 : Int) else IntKind.u8.max) = 255 from rfl]
        refine ⟨k + 1, by omega, by go_num, U.set k (bits .or .u8 x (bits .xor .u8 255 y)), byt_set U HU.out k _ hlt (bits_u8 _ _ _), fun j hj => ?_, ?_, ?_, ?_, ?_, ?_⟩
        · rw [getD_set _ _ _ _ (by omega)]
          by_cases e : k = j
          · subst e
            rw [if_pos rfl, if_pos (by omega), HX.out, HY.out, HUJ.out k hlt, if_neg (by omega)]
          · rw [if_neg e, HUJ.out j hj]
            by_cases h : j < k
            · rw [if_pos h, if_pos (by omega)]
            · rw [if_neg h, if_neg (by omega)]
        · exact (heap_setCell_other wr ⟨w1.heap.size + 1, k, none⟩ (w.heap.size + 1) _ (by simp; omega)).trans g1
        · exact (heap_setCell_other wr ⟨w1.heap.size + 1, k, none⟩ (w.heap.size + 2) _ (by simp; omega)).trans g2
        · exact (heap_setCell_other wr ⟨w1.heap.size + 1, k, none⟩ w1.heap.size _ (by simp)).trans g3
        · rw [← hv_set]; exact heap_setCell_same wr _ _ _ _ _ g4
        · exact hb.setCell (by simp; omega) _
      case measure => simp [intOf]; omega
    · obtain rfl : k = 13 := by omega
      have e : U = top V M := mk_eq U HU.out _ fun i hi => by
        rw [bt_at, HUJ.out _ (by omega), if_pos (by omega), or_yb _ _ ((can_byt V M).2 _) (bits_u8 _ _ _), xor_yb _ _ (by decide) (HM.out.2 _), yb_255 _ (by omega), ← bt_at, ← bt_at, can_bt _ _ _ hi]
        cases bt M i <;> cases bt V i <;> rfl
      subst e
      have s1 := heap_drew g1
      have s2 := heap_drew g2
      have s3 := heap_drew g3
      have s4 := heap_drew g4
      have hB6 := hb.drew
      clear g1 g2 g3 g4 hb HU HUJ
      have h1 := (setRow_heap _ _ _ (hv (can V M)) _ _ s1)
      have h2 := (setRow_other _ (w.heap.size + 1) (w.heap.size + 2) (hv (can V M)) (by omega)).trans s2
      have h4 := (setRow_other _ (w.heap.size + 1) (w1.heap.size + 1) (hv (can V M)) (by omega)).trans s4
      have k1 := (setRow_other _ (w.heap.size + 2) (w.heap.size + 1) (hv (top V M)) (by omega)).trans h1
      have k2 := (setRow_heap _ _ _ (hv (top V M)) _ _ h2)
      go_wp2_with fail
      refine wp_region_two (v0 := .agg (hv (can V M))) (v1 := .agg (hv (top V M))) (w' := wr.drew.setRow (w.heap.size + 1) (hv (can V M))) (by kernel_rfl) (by kernel_rfl) rfl rfl rfl rfl
        (run_loadH _ _ _ _ rfl w1.heap.size rfl _ s3 hCl) (run_loadH _ _ _ _ rfl w1.heap.size rfl _ s3 hCl) (run_loadH _ _ _ _ rfl (w1.heap.size + 1) rfl _ s4 hUl) (run_loadH _ _ _ _ rfl (w1.heap.size + 1) rfl _ s4 hUl) (run_loadH _ _ _ _ rfl (w1.heap.size + 1) rfl _ h4 hUl)
        (run_storeH _ _ _ _ _ rfl (w.heap.size + 1) _ rfl rfl _ s1 rfl hCl) (run_storeH _ _ _ _ _ rfl (w.heap.size + 1) _ rfl rfl _ s1 rfl hCl) rfl ?_
      simp only [Act.put, List.setIfInBounds_toArray, List.set_cons_succ, List.set_cons_zero]
      go_wp2_with (first
        | (refine wl_store26 rfl _ _ rfl (w.heap.size + 2) (top V M) rfl rfl _ h2 rfl hUl _ rfl ?_))
      refine retHH (p := 2) (q := 3) rfl rfl (w.heap.size + 1) (w.heap.size + 2) rfl rfl _ _ hCl hUl k1 k2 ⟨rfl, ?_⟩
      exact below_setRow (below_setRow hB6 (by omega) _) (by omega) _
end Go.Proofs.Ytjlghkiplapodaa
namespace Go.Proofs.Ytjlghkiplapodaa
open Go Go.RowKit

theorem wl_zeroH {ops : Array Oper} {rest : List Oper} {o : Oper} {a : Act} {w : World} {Q : Exit → Act → World → Prop} (hg : o.guard = none) (ho : o.op = .build 24 #[])
    (h : wpList Try.prog ops Q rest (a.put o.dst (.agg (hv Z))) w) : wpList Try.prog ops Q (o :: rest) a w :=
  wpList_plain hg fun _ hK => by
    unfold Oper.wp execOp
    have e : ((#[] : Array (Nat × Operand)).map (fun (i, x) => (i, a.eval x))) = #[] := by simp
    have hb : (Instr.build 24 #[]).run Try.prog w = .ok (.agg (hv Z)) w := by
      rw [← zero26_eq]; kernel_rfl
    simp only [ho, Sem.run_bind]
    rw [e, hb]
    exact hK _ _ h

set_option maxHeartbeats 4000000 in
theorem rends_any (V M : List Int) (hV : Byt V) (hM : Byt M) (w : World) :
    Calls Try.prog 37 #[.agg (cv V M)] w fun e w' => e = .returned (.tuple #[.agg (hv (can V M)), .agg (hv (top V M))]) ∧ Below w.heap.size w w' := by
  have hVl := hV.1
  have hMl := hM.1
  have hzl := Z_byt.1
  obtain ⟨fA, hfA⟩ : ∃ f : Nat → Bool, f = fun i => bt V i && bt M i := ⟨_, rfl⟩
  obtain ⟨fB, hfB⟩ : ∃ f : Nat → Bool, f = fun i => (bt V i && bt M i) || !(bt M i) := ⟨_, rfl⟩
  have CA : Hid (∀ k : Nat, k < 104 → ∀ W, Calls Try.prog 43 #[.agg (cv V M), .int .i64 (k : Int)] W fun e w' => e = .returned (.int .i64 (atI V M k)) ∧ Below W.heap.size W w') := fun k hk => at_any V M hV hM k hk
  have C1 : Hid (∀ k : Nat, k < 104 → ∀ W, Calls Try.prog 47 #[.agg (hv (upto k fA)), .int .i64 (k : Int), .bool (atI V M k == 1)] W fun e w' => e = .returned (.agg (hv (upto (k + 1) fA))) ∧ Below W.heap.size W w') := fun k hk => by
    have := rput_nat _ (upto_byt k fA) k hk (fA k)
    rw [upto_succ] at this
    rw [at_eq1, show (bt V k && bt M k) = fA k by rw [hfA]]
    exact this
  have C2 : Hid (∀ k : Nat, k < 104 → ∀ W, Calls Try.prog 47 #[.agg (hv (upto k fB)), .int .i64 (k : Int), .bool (atI V M k != 0)] W fun e w' => e = .returned (.agg (hv (upto (k + 1) fB))) ∧ Below W.heap.size W w') := fun k hk => by
    have := rput_nat _ (upto_byt k fB) k hk (fB k)
    rw [upto_succ] at this
    rw [at_ne0, show ((bt V k && bt M k) || !(bt M k)) = fB k by rw [hfB]]
    exact this
  have HE : Hid (upto 104 fA = can V M ∧ upto 104 fB = top V M) := by
    show _ ∧ _
    rw [upto_all, upto_all, hfA, hfB]; exact ⟨rfl, rfl⟩
  clear hV hM hfA hfB
  have lA : ∀ k, (upto k fA).length = 13 := fun k => (upto_byt k fA).1
  have lB : ∀ k, (upto k fB).length = 13 := fun k => (upto_byt k fB).1
  go_enter Try.func37, Try.ntmps37
  go_wp2_with (first
    | (refine wl_zeroH rfl rfl ?_)
    | (refine wl_store26 rfl _ _ rfl (w.heap.size + 3) Z rfl rfl _ (heap_new _ _ _ (by simp)) rfl hzl _ (setRow_new _ _ _ _ _ (by simp)) ?_)
    | (refine wl_store26 rfl _ _ rfl (w.heap.size + 4) Z rfl rfl _ (heap_new _ _ _ (by simp)) rfl hzl _ (setRow_new _ _ _ _ _ (by simp)) ?_))
  go_loopw [6] (fun i wr => ∃ k : Nat, k ≤ 104 ∧ i = .int .i64 k ∧ wr.heap[w.heap.size]? = some (.cells (cv V M) 30 (0, 0)) ∧ wr.heap[w.heap.size + 1]? = some (.cells zero26 24 (0, 0)) ∧ wr.heap[w.heap.size + 2]? = some (.cells zero26 24 (0, 0)) ∧ wr.heap[w.heap.size + 3]? = some (.cells (hv (upto k fA)) 24 (0, 0)) ∧ wr.heap[w.heap.size + 4]? = some (.cells (hv (upto k fB)) 24 (0, 0)) ∧ Below w.heap.size w wr) (fun i _ => 104 - (intOf i).toNat)
  case atStart =>
    exact ⟨0, Nat.zero_le _, rfl, heap_past _ _ _ _ (heap_past _ _ _ _ (heap_past _ _ _ _ (heap_past _ _ _ _ (heap_new _ _ _ rfl)))), heap_past _ _ _ _ (heap_past _ _ _ _ (heap_past _ _ _ _ (heap_new _ _ _ (by simp)))), heap_past _ _ _ _ (heap_past _ _ _ _ (heap_new _ _ _ (by simp))), by rw [upto_zero]; exact heap_past _ _ _ _ (heap_new _ _ _ (by simp)), by rw [upto_zero]; exact heap_new _ _ _ (by simp),
      (((((Below.refl _ _).alloc (Nat.le_refl _) _).alloc (by simp) _).alloc (by simp; omega) _).alloc (by simp; omega) _).alloc (by simp; omega) _⟩
  case round =>
    obtain ⟨k, hk, rfl, g0, g1, g2, g3, g4, hb⟩ := hrel
    have l1 := lA k
    have l2 := lA (k + 1)
    have l3 := lB k
    have l4 := lB (k + 1)
    by_cases hlt : k < 104
    · have D0 : Hid (∀ W, Calls Try.prog 43 #[.agg (cv V M), .int .i64 (k : Int)] W fun e w' => e = .returned (.int .i64 (atI V M k)) ∧ Below W.heap.size W w') := CA.out k hlt
      have D1 : Hid (∀ W, Calls Try.prog 47 #[.agg (hv (upto k fA)), .int .i64 (k : Int), .bool (atI V M k == 1)] W fun e w' => e = .returned (.agg (hv (upto (k + 1) fA))) ∧ Below W.heap.size W w') := C1.out k hlt
      have D2 : Hid (∀ W, Calls Try.prog 47 #[.agg (hv (upto k fB)), .int .i64 (k : Int), .bool (atI V M k != 0)] W fun e w' => e = .returned (.agg (hv (upto (k + 1) fB))) ∧ Below W.heap.size W w') := C2.out k hlt
      go_wp2_with fail
      have ne1 := Later.ne wr
      refine wp_region_latertail 7 (by kernel_rfl) (by kernel_rfl) ?_
      simp only [List.take_succ_cons, List.take_zero, List.drop_succ_cons, List.drop_zero]
      refine qlH rfl _ rfl (w.heap.size + 3) rfl (upto k fA) g3 l1 ?_
      simp only [Act.put, List.setIfInBounds_toArray, List.set_cons_succ, List.set_cons_zero]
      go_big_quiet_step (fail)
      refine qlC rfl _ rfl w.heap.size rfl V M g0 hVl hMl ?_
      simp only [Act.put, List.setIfInBounds_toArray, List.set_cons_succ, List.set_cons_zero]
      go_big_quiet_step (fail)
      go_big_quiet_want; go_big_quiet_op
      refine ⟨_, fun u => Calls.later_of (D0.out u.world), ?_⟩
      go_big_quiet_on
      go_big_quiet_step (fail)
      go_big_quiet_want; go_big_quiet_op
      refine ⟨_, fun u => Calls.later_of (D1.out u.world), ?_⟩
      go_big_quiet_on
      refine wpQuiet_nil ?_
      rintro w' ⟨u, rfl⟩
      obtain ⟨W1, hW1⟩ : ∃ W1, W1 = u.world := ⟨_, rfl⟩
      have k0 : W1.heap[w.heap.size]? = some (.cells (cv V M) 30 (0, 0)) := by rw [hW1]; exact later_block g0 _ ⟨u, rfl⟩
      have k1 : W1.heap[w.heap.size + 1]? = some (.cells zero26 24 (0, 0)) := by rw [hW1]; exact later_block g1 _ ⟨u, rfl⟩
      have k2 : W1.heap[w.heap.size + 2]? = some (.cells zero26 24 (0, 0)) := by rw [hW1]; exact later_block g2 _ ⟨u, rfl⟩
      have k3 : W1.heap[w.heap.size + 3]? = some (.cells (hv (upto k fA)) 24 (0, 0)) := by rw [hW1]; exact later_block g3 _ ⟨u, rfl⟩
      have k4 : W1.heap[w.heap.size + 4]? = some (.cells (hv (upto k fB)) 24 (0, 0)) := by rw [hW1]; exact later_block g4 _ ⟨u, rfl⟩
      have hb2 : Below w.heap.size w W1 := by rw [hW1]; exact hb.trans (u.below.mono hb.size)
      rw [← hW1]
      clear hW1 g0 g1 g2 g3 g4 hb ne1 D1
      have m0 := (setRow_other W1 (w.heap.size + 3) w.heap.size (hv (upto (k + 1) fA)) (by omega)).trans k0
      have m1 := (setRow_other W1 (w.heap.size + 3) (w.heap.size + 1) (hv (upto (k + 1) fA)) (by omega)).trans k1
      have m2 := (setRow_other W1 (w.heap.size + 3) (w.heap.size + 2) (hv (upto (k + 1) fA)) (by omega)).trans k2
      have m3 := setRow_heap _ _ _ (hv (upto (k + 1) fA)) _ _ k3
      have m4 := (setRow_other W1 (w.heap.size + 3) (w.heap.size + 4) (hv (upto (k + 1) fA)) (by omega)).trans k4
      have hb3 := below_setRow hb2 (show w.heap.size ≤ w.heap.size + 3 by omega) (hv (upto (k + 1) fA))
      obtain ⟨W2, hW2⟩ : ∃ W2, W2 = W1.setRow (w.heap.size + 3) (hv (upto (k + 1) fA)) := ⟨_, rfl⟩
      go_wp2_with (first
        | (refine wl_store26 rfl _ _ rfl (w.heap.size + 3) (upto (k + 1) fA) rfl rfl _ k3 (by rw [hv_size, l1]) l2 _ hW2.symm ?_))
      rw [← hW2] at m0 m1 m2 m3 m4 hb3
      clear hW2 k0 k1 k2 k3 k4 hb2
      have ne2 := Later.ne W2
      refine wp_region_latertail 7 (by kernel_rfl) (by kernel_rfl) ?_
      simp only [List.take_succ_cons, List.take_zero, List.drop_succ_cons, List.drop_zero]
      refine qlH rfl _ rfl (w.heap.size + 4) rfl (upto k fB) m4 l3 ?_
      simp only [Act.put, List.setIfInBounds_toArray, List.set_cons_succ, List.set_cons_zero]
      go_big_quiet_step (fail)
      refine qlC rfl _ rfl w.heap.size rfl V M m0 hVl hMl ?_
      simp only [Act.put, List.setIfInBounds_toArray, List.set_cons_succ, List.set_cons_zero]
      go_big_quiet_step (fail)
      go_big_quiet_want; go_big_quiet_op
      refine ⟨_, fun u => Calls.later_of (D0.out u.world), ?_⟩
      go_big_quiet_on
      go_big_quiet_step (fail)
      go_big_quiet_want; go_big_quiet_op
      refine ⟨_, fun u => Calls.later_of (D2.out u.world), ?_⟩
      go_big_quiet_on
      refine wpQuiet_nil ?_
      rintro w' ⟨u2, rfl⟩
      have p0 := later_block m0 _ ⟨u2, rfl⟩
      have p1 := later_block m1 _ ⟨u2, rfl⟩
      have p2 := later_block m2 _ ⟨u2, rfl⟩
      have p3 := later_block m3 _ ⟨u2, rfl⟩
      have p4 := later_block m4 _ ⟨u2, rfl⟩
      have hb4 := hb3.trans (u2.below.mono hb3.size)
      clear m0 m1 m2 m3 m4 hb3 ne2
      go_wp2_with (first
        | (refine wl_store26 rfl _ _ rfl (w.heap.size + 4) (upto (k + 1) fB) rfl rfl _ p4 (by rw [hv_size, l3]) l4 _ rfl ?_))
      go_roundw
      case rel =>
        exact ⟨k + 1, by omega, by go_num, (setRow_other _ _ _ _ (by omega)).trans p0, (setRow_other _ _ _ _ (by omega)).trans p1, (setRow_other _ _ _ _ (by omega)).trans p2, (setRow_other _ _ _ _ (by omega)).trans p3, setRow_heap _ _ _ _ _ _ p4, below_setRow hb4 (by omega) _⟩
      case measure => simp [intOf]; omega
    · obtain rfl : k = 104 := by omega
      rw [HE.out.1] at g3
      rw [HE.out.2] at g4
      have hCl := (can_byt V M).1
      have hTl := (top_byt V M).1
      have s1 := heap_drew g1
      have s2 := heap_drew g2
      have s3 := heap_drew g3
      have s4 := heap_drew g4
      have hB6 := hb.drew
      clear g0 g1 g2 g3 g4 hb HE CA C1 C2 lA lB l1 l2 l3 l4
      have h1 := (setRow_heap _ _ _ (hv (can V M)) _ _ s1)
      have h2 := (setRow_other _ (w.heap.size + 1) (w.heap.size + 2) (hv (can V M)) (by omega)).trans s2
      have h4 := (setRow_other _ (w.heap.size + 1) (w.heap.size + 4) (hv (can V M)) (by omega)).trans s4
      have k1 := (setRow_other _ (w.heap.size + 2) (w.heap.size + 1) (hv (top V M)) (by omega)).trans h1
      have k2 := (setRow_heap _ _ _ (hv (top V M)) _ _ h2)
      go_wp2_with fail
      refine wp_region_two (v0 := .agg (hv (can V M))) (v1 := .agg (hv (top V M))) (w' := wr.drew.setRow (w.heap.size + 1) (hv (can V M))) (by kernel_rfl) (by kernel_rfl) rfl rfl rfl rfl
        (run_loadH _ _ _ _ rfl (w.heap.size + 3) rfl _ s3 hCl) (run_loadH _ _ _ _ rfl (w.heap.size + 3) rfl _ s3 hCl) (run_loadH _ _ _ _ rfl (w.heap.size + 4) rfl _ s4 hTl) (run_loadH _ _ _ _ rfl (w.heap.size + 4) rfl _ s4 hTl) (run_loadH _ _ _ _ rfl (w.heap.size + 4) rfl _ h4 hTl)
        (run_storeH _ _ _ _ _ rfl (w.heap.size + 1) _ rfl rfl _ s1 rfl hCl) (run_storeH _ _ _ _ _ rfl (w.heap.size + 1) _ rfl rfl _ s1 rfl hCl) rfl ?_
      simp only [Act.put, List.setIfInBounds_toArray, List.set_cons_succ, List.set_cons_zero]
      go_wp2_with (first
        | (refine wl_store26 rfl _ _ rfl (w.heap.size + 2) (top V M) rfl rfl _ h2 rfl hTl _ rfl ?_))
      refine retHH (p := 2) (q := 3) rfl rfl (w.heap.size + 1) (w.heap.size + 2) rfl rfl _ _ hCl hTl k1 k2 ⟨rfl, ?_⟩
      exact below_setRow (below_setRow hB6 (by omega) _) (by omega) _

/-- How many of the first k bits are free. -/
def freeN (M : List Int) : Nat → Int
  | 0 => 0
  | k + 1 => if bt M k then freeN M k else freeN M k + 1
theorem freeN_bd (M : List Int) : ∀ k, 0 ≤ freeN M k ∧ freeN M k ≤ k
  | 0 => by simp [freeN]
  | k + 1 => by
    have := freeN_bd M k
    unfold freeN
    split <;> omega
theorem freeN_eq (M : List Int) : ∀ k, freeN M k = (((List.range k).filter fun i => !(bt M i)).length : Int)
  | 0 => rfl
  | k + 1 => by
    rw [List.range_succ, List.filter_append, List.length_append, freeN, freeN_eq M k]
    cases h : bt M k <;> simp [h]

end Go.Proofs.Ytjlghkiplapodaa
namespace Go.Proofs.Ytjlghkiplapodaa
open Go Go.RowKit

def lessL : List Int → List Int → Bool
  | a :: r, b :: s => if a = b then lessL r s else decide (a < b)
  | _, _ => false

theorem less_refl : ∀ A : List Int, lessL A A = false
  | [] => rfl
  | a :: r => by simp [lessL, less_refl r]
theorem less_anti : ∀ (A B : List Int), A.length = B.length → A ≠ B → lessL A B = !(lessL B A)
  | [], [], _, h => absurd rfl h
  | [], _ :: _, h, _ => by simp at h
  | _ :: _, [], h, _ => by simp at h
  | a :: r, b :: s, hl, h => by
    simp only [lessL]
    by_cases e : a = b
    · subst e
      simp only [if_true]
      exact less_anti r s (by simpa using hl) (fun h' => h (by rw [h']))
    · rw [if_neg e, if_neg (fun h => e h.symm), Bool.eq_iff_iff]
      simp
      omega
theorem less_trans : ∀ (A B C : List Int), A.length = B.length → B.length = C.length → lessL A B = true → lessL B C = true → lessL A C = true
  | [], [], [], _, _, h, _ => by simp [lessL] at h
  | a :: r, b :: s, c :: q, h1, h2, hab, hbc => by
    simp only [lessL] at *
    by_cases e1 : a = b
    · subst e1
      rw [if_pos rfl] at hab
      by_cases e2 : a = c
      · subst e2
        rw [if_pos rfl] at hbc ⊢
        exact less_trans r s q (by simpa using h1) (by simpa using h2) hab hbc
      · rw [if_neg e2] at hbc ⊢; exact hbc
    · rw [if_neg e1] at hab
      have hab' : a < b := by simpa using hab
      by_cases e2 : b = c
      · subst e2; rw [if_neg e1]; exact hab
      · rw [if_neg e2] at hbc
        have hbc' : b < c := by simpa using hbc
        rw [if_neg (by omega)]
        simp; omega

theorem less_drop (A B : List Int) (hA : A.length = 13) (hB : B.length = 13) : ∀ k, k ≤ 13 → (∀ j, j < k → A.getD j 0 = B.getD j 0) → lessL A B = lessL (A.drop k) (B.drop k)
  | 0, _, _ => by simp
  | k + 1, hk, h => by
    rw [less_drop A B hA hB k (by omega) (fun j hj => h j (by omega))]
    have ek := h k (by omega)
    rw [List.drop_eq_getElem_cons (show k < A.length by omega), List.drop_eq_getElem_cons (show k < B.length by omega)]
    simp only [lessL]
    rw [if_pos]
    simpa [List.getD, show k < A.length by omega, show k < B.length by omega] using ek
theorem less_at (A B : List Int) (hA : A.length = 13) (hB : B.length = 13) (k : Nat) (hk : k < 13) (h : ∀ j, j < k → A.getD j 0 = B.getD j 0) (hne : A.getD k 0 ≠ B.getD k 0) : lessL A B = decide (A.getD k 0 < B.getD k 0) := by
  rw [less_drop A B hA hB k (by omega) h, List.drop_eq_getElem_cons (show k < A.length by omega), List.drop_eq_getElem_cons (show k < B.length by omega)]
  simp only [lessL]
  have ea : A.getD k 0 = A[k] := by simp [List.getD, show k < A.length by omega]
  have eb : B.getD k 0 = B[k] := by simp [List.getD, show k < B.length by omega]
  rw [ea, eb] at hne ⊢
  rw [if_neg hne]
theorem less_end (A B : List Int) (hA : A.length = 13) (hB : B.length = 13) (h : ∀ j, j < 13 → A.getD j 0 = B.getD j 0) : lessL A B = false := by
  rw [less_drop A B hA hB 13 (by omega) h, List.drop_of_length_le (by omega), List.drop_of_length_le (by omega)]
  rfl

set_option maxHeartbeats 1000000 in
theorem less_any (A B : List Int) (hA : Byt A) (hB : Byt B) (w : World) :
    Calls Try.prog 36 #[.agg (hv A), .agg (hv B)] w fun e w' => e = .returned (.bool (lessL A B)) ∧ Below w.heap.size w w' := by
  go_enter Try.func36, Try.ntmps36
  go_wp2
  go_loopw [6] (fun i wr => ∃ k : Nat, k ≤ 13 ∧ i = .int .i64 k ∧ (∀ j, j < k → A.getD j 0 = B.getD j 0) ∧ ∃ n, wr = ((w.alloc (.cells (hv A) 24)).alloc (.cells (hv B) 24)).drewN n) (fun i _ => 13 - (intOf i).toNat)
  case atStart => exact ⟨0, Nat.zero_le _, rfl, fun j hj => by omega, 0, rfl⟩
  case round =>
    obtain ⟨k, hk, rfl, hbef, nw, rfl⟩ := hrel
    by_cases hlt : k < 13
    · obtain ⟨x, hx, hxe⟩ : ∃ x, (hv A)[k]? = some (.int .u8 x) ∧ x = A.getD k 0 := ⟨_, hv_at A hA.1 k hlt, rfl⟩
      obtain ⟨y, hy, hye⟩ : ∃ y, (hv B)[k]? = some (.int .u8 y) ∧ y = B.getD k 0 := ⟨_, hv_at B hB.1 k hlt, rfl⟩
      have HX : Hid (x = A.getD k 0) := hxe
      have HY : Hid (y = B.getD k 0) := hye
      have HB : Hid (∀ j, j < k → A.getD j 0 = B.getD j 0) := hbef
      clear hxe hye hbef
      by_cases hne : x = y
      · subst hne
        go_wp2
        go_quiet (fail)
        go_wp2
        go_roundw
        case rel =>
          refine ⟨k + 1, by omega, by go_num, fun j hj => ?_, _, rfl⟩
          by_cases e : j = k
          · subst e; rw [← HX.out, ← HY.out]
          · exact HB.out j (by omega)
        case measure => simp [intOf]; omega
      · have hne' : (x != y) = true := by simpa using hne
        have HN : Hid (¬ x = y) := hne
        clear hne
        go_wp2
        go_quiet (fail)
        go_wp2
        go_quiet (fail)
        go_wp2
        go_ret
        refine ⟨ret_bool ?_, below_drewN (below_drewN (below_drewN (((Below.refl _ _).alloc (Nat.le_refl _) _).alloc (by simp) _) _) _) _⟩
        have hn := HN.out
        rw [HX.out, HY.out] at hn
        rw [less_at A B hA.1 hB.1 k hlt HB.out hn, ← HX.out, ← HY.out]
    · obtain rfl : k = 13 := by omega
      have HB : Hid (∀ j, j < 13 → A.getD j 0 = B.getD j 0) := hbef
      clear hbef
      go_wp2
      go_ret
      exact ⟨ret_bool (less_end A B hA.1 hB.1 HB.out).symm, below_drewN (((Below.refl _ _).alloc (Nat.le_refl _) _).alloc (by simp) _) _⟩

theorem bit_in (A : List Int) (k j : Nat) (hk : k < 13) (hj : j < 8) : bitB A ((8 * k + j : Nat) : Int) = (A.getD k 0 / 2 ^ (7 - j) % 2 == 1) := by
  unfold bitB byteAt
  rw [decide_eq_true (by omega), Bool.true_and, show (((8 * k + j : Nat) : Int) / 8).toNat = k by omega, show (7 - ((8 * k + j : Nat) : Int) % 8).toNat = 7 - j by omega]

theorem byte_eq (x y : Int) (hx : 0 ≤ x ∧ x < 256) (hy : 0 ≤ y ∧ y < 256) (h : ∀ j, j < 8 → (x / 2 ^ (7 - j) % 2 == 1) = (y / 2 ^ (7 - j) % 2 == 1)) : x = y := by
  have g : ∀ j, j < 8 → x / 2 ^ (7 - j) % 2 = y / 2 ^ (7 - j) % 2 := fun j hj => by
    have := h j hj
    rw [Bool.eq_iff_iff, beq_iff_eq, beq_iff_eq] at this
    have a1 : x / 2 ^ (7 - j) % 2 = 0 ∨ x / 2 ^ (7 - j) % 2 = 1 := by omega
    have a2 : y / 2 ^ (7 - j) % 2 = 0 ∨ y / 2 ^ (7 - j) % 2 = 1 := by omega
    omega
  have g0 := g 0 (by decide)
  have g1 := g 1 (by decide)
  have g2 := g 2 (by decide)
  have g3 := g 3 (by decide)
  have g4 := g 4 (by decide)
  have g5 := g 5 (by decide)
  have g6 := g 6 (by decide)
  have g7 := g 7 (by decide)
  simp only [Nat.sub_zero, Nat.reduceSub, Int.reducePow, Int.pow_zero, Int.ediv_one] at g0 g1 g2 g3 g4 g5 g6 g7
  omega
theorem byte_lt (x y : Int) (hx : 0 ≤ x ∧ x < 256) (hy : 0 ≤ y ∧ y < 256) (j : Nat) (hj : j < 8) (h : ∀ l, l < j → (x / 2 ^ (7 - l) % 2 == 1) = (y / 2 ^ (7 - l) % 2 == 1)) (hne : (x / 2 ^ (7 - j) % 2 == 1) ≠ (y / 2 ^ (7 - j) % 2 == 1)) :
    x ≠ y ∧ decide (x < y) = (y / 2 ^ (7 - j) % 2 == 1) := by
  have g : ∀ l, l < j → x / 2 ^ (7 - l) % 2 = y / 2 ^ (7 - l) % 2 := fun l hl => by
    have := h l hl
    rw [Bool.eq_iff_iff, beq_iff_eq, beq_iff_eq] at this
    have a1 : x / 2 ^ (7 - l) % 2 = 0 ∨ x / 2 ^ (7 - l) % 2 = 1 := by omega
    have a2 : y / 2 ^ (7 - l) % 2 = 0 ∨ y / 2 ^ (7 - l) % 2 = 1 := by omega
    omega
  have hn : x / 2 ^ (7 - j) % 2 ≠ y / 2 ^ (7 - j) % 2 := fun e => hne (by rw [e])
  rw [Bool.eq_iff_iff, beq_iff_eq, decide_eq_true_eq]
  rcases (show j = 0 ∨ j = 1 ∨ j = 2 ∨ j = 3 ∨ j = 4 ∨ j = 5 ∨ j = 6 ∨ j = 7 by omega) with e | e | e | e | e | e | e | e
  all_goals subst e
  · simp only [Nat.sub_zero, Int.reducePow] at hn ⊢; omega
  · have g0 := g 0 (by decide)
    simp only [Nat.sub_zero, Nat.reduceSub, Int.reducePow] at hn g0 ⊢; omega
  · have g0 := g 0 (by decide)
    have g1 := g 1 (by decide)
    simp only [Nat.sub_zero, Nat.reduceSub, Int.reducePow] at hn g0 g1 ⊢; omega
  · have g0 := g 0 (by decide)
    have g1 := g 1 (by decide)
    have g2 := g 2 (by decide)
    simp only [Nat.sub_zero, Nat.reduceSub, Int.reducePow] at hn g0 g1 g2 ⊢; omega
  · have g0 := g 0 (by decide)
    have g1 := g 1 (by decide)
    have g2 := g 2 (by decide)
    have g3 := g 3 (by decide)
    simp only [Nat.sub_zero, Nat.reduceSub, Int.reducePow] at hn g0 g1 g2 g3 ⊢; omega
  · have g0 := g 0 (by decide)
    have g1 := g 1 (by decide)
    have g2 := g 2 (by decide)
    have g3 := g 3 (by decide)
    have g4 := g 4 (by decide)
    simp only [Nat.sub_zero, Nat.reduceSub, Int.reducePow] at hn g0 g1 g2 g3 g4 ⊢; omega
  · have g0 := g 0 (by decide)
    have g1 := g 1 (by decide)
    have g2 := g 2 (by decide)
    have g3 := g 3 (by decide)
    have g4 := g 4 (by decide)
    have g5 := g 5 (by decide)
    simp only [Nat.sub_zero, Nat.reduceSub, Int.reducePow] at hn g0 g1 g2 g3 g4 g5 ⊢; omega
  · have g0 := g 0 (by decide)
    have g1 := g 1 (by decide)
    have g2 := g 2 (by decide)
    have g3 := g 3 (by decide)
    have g4 := g 4 (by decide)
    have g5 := g 5 (by decide)
    have g6 := g 6 (by decide)
    simp only [Nat.sub_zero, Nat.sub_self, Nat.reduceSub, Int.reducePow, Int.pow_zero, Int.ediv_one] at hn g0 g1 g2 g3 g4 g5 g6 ⊢; omega

theorem bytes_before (A B : List Int) (hA : Byt A) (hB : Byt B) (n : Nat) (hn : n ≤ 104) (h : ∀ j : Nat, j < n → bitB A (j : Int) = bitB B (j : Int)) (k : Nat) (hk : 8 * k + 8 ≤ n) : A.getD k 0 = B.getD k 0 :=
  byte_eq _ _ (hA.2 k) (hB.2 k) fun j hj => by
    have := h (8 * k + j) (by omega)
    rwa [bit_in A k j (by omega) hj, bit_in B k j (by omega) hj] at this

theorem less_bit (A B : List Int) (hA : Byt A) (hB : Byt B) (n : Nat) (hn : n < 104) (h : ∀ j : Nat, j < n → bitB A (j : Int) = bitB B (j : Int)) (hne : bitB A (n : Int) ≠ bitB B (n : Int)) : lessL A B = bitB B (n : Int) := by
  have e : n = 8 * (n / 8) + n % 8 := by omega
  have hA' := bit_in A (n / 8) (n % 8) (by omega) (by omega)
  have hB' := bit_in B (n / 8) (n % 8) (by omega) (by omega)
  rw [← e] at hA' hB'
  rw [hA', hB'] at hne
  obtain ⟨h1, h2⟩ := byte_lt _ _ (hA.2 (n / 8)) (hB.2 (n / 8)) (n % 8) (by omega) (fun l hl => by
    have := h (8 * (n / 8) + l) (by omega)
    rwa [bit_in A (n / 8) l (by omega) (by omega), bit_in B (n / 8) l (by omega) (by omega)] at this) hne
  rw [less_at A B hA.1 hB.1 (n / 8) (by omega) (fun j hj => bytes_before A B hA hB n (by omega) h j (by omega)) h1, h2, hB']
end Go.Proofs.Ytjlghkiplapodaa
namespace Go.Proofs.Ytjlghkiplapodaa
open Go Go.RowKit

set_option maxHeartbeats 1000000 in
theorem refLess_any (A B : List Int) (hA : Byt A) (hB : Byt B) (w : World) :
    Calls Try.prog 38 #[.agg (hv A), .agg (hv B)] w fun e w' => e = .returned (.bool (lessL A B)) ∧ Below w.heap.size w w' := by
  go_enter Try.func38, Try.ntmps38
  go_wp2
  go_loopw [5] (fun i wr => ∃ k : Nat, k ≤ 104 ∧ i = .int .i64 k ∧ (∀ j : Nat, j < k → bitB A (j : Int) = bitB B (j : Int)) ∧ wr.heap[w.heap.size]? = some (.cells (hv A) 24 (0, 0)) ∧ wr.heap[w.heap.size + 1]? = some (.cells (hv B) 24 (0, 0)) ∧ Below w.heap.size w wr) (fun i _ => 104 - (intOf i).toNat)
  case atStart => exact ⟨0, Nat.zero_le _, rfl, fun j hj => by omega, heap_past _ _ _ _ (heap_new _ _ _ rfl), heap_new _ _ _ (by simp), ((Below.refl _ _).alloc (Nat.le_refl _) _).alloc (by simp) _⟩
  case round =>
    obtain ⟨k, hk, rfl, hbef, gA, gB, hbw⟩ := hrel
    have hlA := hA.1
    have hlB := hB.1
    have HB : Hid (∀ j : Nat, j < k → bitB A (j : Int) = bitB B (j : Int)) := hbef
    clear hbef
    by_cases hlt : k < 104
    · have ca := refBit_any A hA (k : Int)
      have cb := refBit_any B hB (k : Int)
      obtain ⟨x, hx⟩ : ∃ x, x = bitB A (k : Int) := ⟨_, rfl⟩
      obtain ⟨y, hy⟩ : ∃ y, y = bitB B (k : Int) := ⟨_, rfl⟩
      have HX : Hid (x = bitB A (k : Int)) := hx
      have HY : Hid (y = bitB B (k : Int)) := hy
      rw [← hx] at ca
      rw [← hy] at cb
      have CA : Hid _ := ca
      have CB : Hid _ := cb
      clear hx hy ca cb
      have ne1 := Later.ne wr
      by_cases hne : x = y
      · subst hne
        go_wp2
        refine wp_region_later (by kernel_rfl) (by kernel_rfl) ?_
        refine qlH rfl _ rfl w.heap.size rfl A gA hlA ?_
        simp only [Act.put, List.setIfInBounds_toArray, List.set_cons_succ, List.set_cons_zero]
        go_big_quiet_step (fail)
        go_big_quiet_want; go_big_quiet_op
        refine ⟨_, fun u => Calls.later_of (CA.out u.world), ?_⟩
        go_big_quiet_on
        refine qlH rfl _ rfl (w.heap.size + 1) rfl B gB hlB ?_
        simp only [Act.put, List.setIfInBounds_toArray, List.set_cons_succ, List.set_cons_zero]
        go_big_quiet_step (fail)
        go_big_quiet_want; go_big_quiet_op
        refine ⟨_, fun u => Calls.later_of (CB.out u.world), ?_⟩
        go_big_quiet_on
        repeat go_big_quiet_step (fail)
        refine wpQuiet_nil ?_
        rintro w' ⟨u, rfl⟩
        go_wp2
        go_roundw
        case rel =>
          refine ⟨k + 1, by omega, by go_num, fun j hj => ?_, later_block gA _ ⟨u, rfl⟩, later_block gB _ ⟨u, rfl⟩, hbw.trans (u.below.mono hbw.size)⟩
          by_cases e : j = k
          · subst e; rw [← HX.out, ← HY.out]
          · exact HB.out j (by omega)
        case measure => simp [intOf]; omega
      · have HN : Hid (¬ x = y) := hne
        rcases (show (x = true ∧ y = false) ∨ (x = false ∧ y = true) by cases x <;> cases y <;> simp_all) with ⟨e1, e2⟩ | ⟨e1, e2⟩
        all_goals
          subst e1 e2
          clear hne
          go_wp2
          refine wp_region_later (by kernel_rfl) (by kernel_rfl) ?_
          refine qlH rfl _ rfl w.heap.size rfl A gA hlA ?_
          simp only [Act.put, List.setIfInBounds_toArray, List.set_cons_succ, List.set_cons_zero]
          go_big_quiet_step (fail)
          go_big_quiet_want; go_big_quiet_op
          refine ⟨_, fun u => Calls.later_of (CA.out u.world), ?_⟩
          go_big_quiet_on
          refine qlH rfl _ rfl (w.heap.size + 1) rfl B gB hlB ?_
          simp only [Act.put, List.setIfInBounds_toArray, List.set_cons_succ, List.set_cons_zero]
          go_big_quiet_step (fail)
          go_big_quiet_want; go_big_quiet_op
          refine ⟨_, fun u => Calls.later_of (CB.out u.world), ?_⟩
          go_big_quiet_on
          repeat go_big_quiet_step (fail)
          refine wpQuiet_nil ?_
          rintro w' ⟨u, rfl⟩
          have gB2 := later_block gB _ ⟨u, rfl⟩
          go_wp2_with (refine wl_load26 rfl _ rfl (w.heap.size + 1) rfl B gB2 hlB ?_)
          refine (CB.out u.world).mono ?_
          rintro e w2 ⟨rfl, hb2⟩
          go_wp2_with fail
          go_ret
          have hW : Below w.heap.size w u.world := hbw.trans (u.below.mono hbw.size)
          refine ⟨ret_bool ?_, hW.trans (hb2.mono hW.size)⟩
          have hn := HN.out
          rw [HX.out, HY.out] at hn
          rw [HY.out, less_bit A B hA hB k hlt HB.out hn]
    · obtain rfl : k = 104 := by omega
      go_wp2
      go_ret
      exact ⟨ret_bool (less_end A B hA.1 hB.1 fun j hj => bytes_before A B hA hB 104 (by omega) HB.out j (by omega)).symm, hbw⟩
end Go.Proofs.Ytjlghkiplapodaa
