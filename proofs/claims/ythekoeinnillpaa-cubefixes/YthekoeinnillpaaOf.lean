import Derived.Test.YthekoeinnillpaaAwake
namespace Go.Proofs.Ythekoeinnillpaa
open Go Go.RowKit

/-- Thirteen bytes of ones. -/
def F : List Int := mk fun _ => true
theorem F_byt : Byt F := mk_byt _
theorem F_at (k : Nat) (hk : k < 13) : F.getD k 0 = 255 := by unfold F; rw [mk_at _ k hk]; rfl

theorem built1 (L : List Int) (hL : L.length = 13) (w : World) : (Instr.build 25 #[(0, .agg (hv L))]).run Try.prog w = .ok (.agg (cv L Z)) w := by
  have hz : ∀ w, (zeroValue 25).run Try.prog w = .ok (.agg zeroC) w := fun w => by kernel_rfl
  have hs : ∀ w, (sizeOf 23).run Try.prog w = .ok 13 w := fun w => by kernel_rfl
  have hsz : (hv L).size = 13 := by rw [hv_size, hL]
  have hfold : (hv L).zipIdx.foldl (fun cs (x : Value × Nat) => cs.setIfInBounds (0 + x.2) x.1) zeroC = cv L Z := by
    have e : (hv L).zipIdx.foldl (fun cs (x : Value × Nat) => cs.setIfInBounds (0 + x.2) x.1) zeroC = ((hv L).toList.zipIdx 0).foldl (fun cs (x : Value × Nat) => cs.setIfInBounds (0 + x.2) x.1) zeroC := by
      rw [← Array.foldl_toList]; simp
    rw [e]
    apply Array.ext_getElem?
    intro k
    rw [fold_get 0 (hv L).toList 0 zeroC k (by simp [hsz])]
    simp only [Array.length_toList, hsz, Nat.zero_add, Nat.sub_zero]
    by_cases hk : k < 13
    · rw [if_pos (by omega), Array.getElem?_toList, hv_at L hL k hk, cv_val L Z hL k hk]
    · rw [if_neg (by omega), zeroC_eq]
      by_cases h2 : k < 26
      · have e2 : k = 13 + (k - 13) := by omega
        rw [e2, cv_mask Z Z Z_byt.1 Z_byt.1 _ (by omega), cv_mask L Z hL Z_byt.1 _ (by omega)]
      · rw [Array.getElem?_eq_none (by rw [cv_size _ _ Z_byt.1 Z_byt.1]; omega), Array.getElem?_eq_none (by rw [cv_size _ _ hL Z_byt.1]; omega)]
  have hfill : ∀ pl : Nat → Option (Nat × Nat), pl 0 = some (0, 13) → Instr.fill pl zeroC [(0, .agg (hv L))] = some (cv L Z) := fun pl h0 => by
    simp only [Instr.fill, h0, Value.cells, hsz]
    rw [if_neg (by simp)]
    exact congrArg some hfold
  simp only [Instr.build, Sem.run_bind, hz, run_underlying Try.underlying25, Result.andThen_ok, Value.cells]
  simp [Sem.run_bind, hs, hfill]

theorem wl_buildC {ops : Array Oper} {rest : List Oper} {o : Oper} {a : Act} {w : World} {Q : Exit → Act → World → Prop} (hg : o.guard = none) (x : Operand) (ho : o.op = .build 25 #[(0, x)]) (L : List Int) (hL : L.length = 13) (hx : a.eval x = .agg (hv L))
    (h : wpList Try.prog ops Q rest (a.put o.dst (.agg (cv L Z))) w) : wpList Try.prog ops Q (o :: rest) a w :=
  wpList_plain hg fun _ hK => by
    unfold Oper.wp execOp
    have e : (#[(0, x)] : Array (Nat × Operand)).map (fun (i, x) => (i, a.eval x)) = #[(0, .agg (hv L))] := by simp [hx]
    simp only [ho, Sem.run_bind]
    rw [e, built1 L hL]
    exact hK _ _ h

set_option maxHeartbeats 2000000 in
theorem of_any (L : List Int) (hL : Byt L) (w : World) :
    Calls Try.prog 16 #[.agg (hv L)] w fun e w' => e = .returned (.agg (cv L F)) ∧ Below w.heap.size w w' := by
  have hl := hL.1
  clear hL
  have hzl := Z_byt.1
  go_enter Try.func16, Try.ntmps16
  go_wp2_with (first
    | (refine wl_load26 rfl _ rfl w.heap.size rfl L (heap_past _ _ _ _ (heap_new _ _ _ rfl)) hl ?_)
    | (refine wl_buildC rfl _ rfl L hl rfl ?_)
    | (refine wl_storeC rfl _ _ rfl (w.heap.size + 2) L Z rfl rfl _ (heap_new _ _ _ (by simp)) rfl hl hzl _ (setRow_new _ _ _ _ _ (by simp)) ?_))
  go_loopw [7] (fun i wr => ∃ k : Nat, k ≤ 13 ∧ i = .int .i64 k ∧ ∃ N : List Int, Byt N ∧ (∀ j, j < k → N.getD j 0 = 255) ∧ wr.heap[w.heap.size + 1]? = some (.cells zeroC 25 (0, 0)) ∧ wr.heap[w.heap.size + 2]? = some (.cells (cv L N) 25 (0, 0)) ∧ Below w.heap.size w wr) (fun i _ => 13 - (intOf i).toNat)
  case atStart => exact ⟨0, Nat.zero_le _, rfl, Z, Z_byt, fun j hj => by omega, heap_past _ _ _ _ (heap_new _ _ _ (by simp)), heap_new _ _ _ (by simp), (((Below.refl _ _).alloc (Nat.le_refl _) _).alloc (by simp) _).alloc (by simp; omega) _⟩
  case round =>
    clear hzl
    obtain ⟨k, hk, rfl, N, hN, hNj, g1, g2, hb⟩ := hrel
    have hNl := hN.1
    have HN : Hid (Byt N) := hN
    have HNJ : Hid (∀ j, j < k → N.getD j 0 = 255) := hNj
    clear hN hNj
    by_cases hlt : k < 13
    · have cy : wr.cell? ⟨w.heap.size + 2, 13 + k, none⟩ = some (.int .u8 (N.getD k 0)) := by rw [cell_of_row wr _ _ _ _ _ g2]; exact cv_mask L N hl hNl k hlt
      have cf : wr.frozen? ⟨w.heap.size + 2, 13 + k, none⟩ = false := frozen_of_row wr _ _ _ _ g2
      go_wp2_with fail
      go_roundw
      case rel =>
        refine ⟨k + 1, by omega, by go_num, N.set k 255, byt_set N HN.out k _ hlt (by decide), fun j hj => ?_, ?_, ?_, ?_⟩
        · rw [getD_set _ _ _ _ (by omega)]
          by_cases e : k = j
          · rw [if_pos e]
          · rw [if_neg e]; exact HNJ.out j (by omega)
        · exact (heap_setCell_other wr ⟨w.heap.size + 2, 13 + k, none⟩ (w.heap.size + 1) _ (by simp)).trans g1
        · rw [← cv_set_mask L N hl k]; exact heap_setCell_same wr _ _ _ _ _ g2
        · exact hb.setCell (by simp; omega) _
      case measure => simp [intOf]; omega
    · obtain rfl : k = 13 := by omega
      obtain rfl : N = F := ext13 N F hNl F_byt.1 fun j hj => by rw [HNJ.out j hj, F_at j hj]
      go_wp2_with (first
        | (refine wl_loadC rfl _ rfl (w.heap.size + 2) rfl L F g2 hl hNl ?_)
        | (refine wl_storeC rfl _ _ rfl (w.heap.size + 1) L F rfl rfl _ g1 rfl hl hNl _ rfl ?_))
      refine retC (p := 2) rfl rfl (w.heap.size + 1) rfl L F hl hNl (setRow_heap _ _ _ _ _ _ g1) ⟨rfl, ?_⟩
      exact below_setRow hb (by omega) _

set_option maxHeartbeats 2000000 in
theorem right_any (V M : List Int) (hV : Byt V) (hM : Byt M) (w : World) :
    Calls Try.prog 14 #[.agg (cv V M)] w fun e w' => e = .returned (.bool (V == can V M)) ∧ Below w.heap.size w w' := by
  have hVl := hV.1
  have hMl := hM.1
  have hCl := (can_byt V M).1
  have C1 : Hid (∀ W, Calls Try.prog 10 #[.agg (cv V M)] W fun e w' => e = .returned (.agg (cv (can V M) M)) ∧ Below W.heap.size W w') := canon_any V M hV hM
  have eC : ∀ w, (Op.equalIn 10000 25 (.agg (cv V M)) (.agg (cv (can V M) M))).run Try.prog w = .ok (V == can V M) w := fun w => by rw [eqC V M (can V M) M hVl hMl hCl hMl]; simp
  have eg : ∀ op x y (xs ys : Array Value) w, (eqGuard op 25 x y (.agg xs) (.agg ys)).run Try.prog w = .ok () w := egC
  clear hV hM
  go_enter Try.func14, Try.ntmps14
  go_wp2_with fail
  have g0 := heap_new w (.cells (cv V M) 25) _ rfl
  have hb := (Below.refl w.heap.size w).alloc (Nat.le_refl _) (.cells (cv V M) 25)
  obtain ⟨W, hW⟩ : ∃ W, W = w.alloc (.cells (cv V M) 25) := ⟨_, rfl⟩
  rw [← hW] at g0 hb ⊢
  clear hW
  have ne1 := Later.ne W
  refine wp_region_later (by kernel_rfl) (by kernel_rfl) ?_
  refine qlC rfl _ rfl w.heap.size rfl V M g0 hVl hMl ?_
  simp only [Act.put, List.setIfInBounds_toArray, List.set_cons_succ, List.set_cons_zero]
  refine qlC rfl _ rfl w.heap.size rfl V M g0 hVl hMl ?_
  simp only [Act.put, List.setIfInBounds_toArray, List.set_cons_succ, List.set_cons_zero]
  go_big_quiet_want; go_big_quiet_op
  refine ⟨_, fun u => Calls.later_of (C1.out u.world), ?_⟩
  go_big_quiet_on
  repeat go_big_quiet_step (fail)
  refine wpQuiet_nil ?_
  rintro w' ⟨u, rfl⟩
  go_wp2
  go_ret
  exact ⟨rfl, hb.trans (u.below.mono hb.size)⟩
end Go.Proofs.Ythekoeinnillpaa
