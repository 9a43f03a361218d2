import Derived.Test.YtplnlmkmaapbaaaDoorAwake
namespace Go.Proofs.YtplnlmkmaapbaaaDoor
open Go Go.RowKit

/-- Thirteen bytes of ones. -/
def F : List Int := mk fun _ => true
theorem F_byt : Byt F := mk_byt _
theorem F_at (k : Nat) (hk : k < 13) : F.getD k 0 = 255 := by unfold F; rw [mk_at _ k hk]; rfl

theorem built1 (L : List Int) (hL : L.length = 13) (w : World) : (Instr.build 37 #[(0, .agg (hv L))]).run Tryd.prog w = .ok (.agg (cv L Z)) w := by
  have hz : ∀ w, (zeroValue 37).run Tryd.prog w = .ok (.agg zeroC) w := fun w => by kernel_rfl
  have hs : ∀ w, (sizeOf 23).run Tryd.prog w = .ok 13 w := fun w => by kernel_rfl
  have hsz : (hv L).size = 13 := by rw [hv_size, hL]
  have hfold : (hv L).zipIdx.foldl (fun cs (x : Value × Nat) => cs.setIfInBounds (0 + x.2) x.1) zeroC = cv L Z := by
    have e : (hv L).zipIdx.foldl (fun cs (x : Value × Nat) => cs.setIfInBounds (0 + x.2) x.1) zeroC = ((hv L).toList.zipIdx 0).foldl (fun cs (x : Value × Nat) => cs.setIfInBounds (0 + x.2) x.1) zeroC := by
      rw [← Array.foldl_toList]; simp
    rw [e]
    apply Array.ext_getElem?
    intro k
    rw [fold_get 0 (hv L).toList 0 zeroC k (by simp [hsz])]
    simp only [Array.length_toList, hsz, Nat.zero_add, Nat.sub_zero]
    by_cases hk : k < 13
    · rw [if_pos (by omega), Array.getElem?_toList, hv_at L hL k hk, cv_val L Z hL k hk]
    · rw [if_neg (by omega), zeroC_eq]
      by_cases h2 : k < 26
      · have e2 : k = 13 + (k - 13) := by omega
        rw [e2, cv_mask Z Z Z_byt.1 Z_byt.1 _ (by omega), cv_mask L Z hL Z_byt.1 _ (by omega)]
      · rw [Array.getElem?_eq_none (by rw [cv_size _ _ Z_byt.1 Z_byt.1]; omega), Array.getElem?_eq_none (by rw [cv_size _ _ hL Z_byt.1]; omega)]
  have hfill : ∀ pl : Nat → Option (Nat × Nat), pl 0 = some (0, 13) → Instr.fill pl zeroC [(0, .agg (hv L))] = some (cv L Z) := fun pl h0 => by
    simp only [Instr.fill, h0, Value.cells, hsz]
    rw [if_neg (by simp)]
    exact congrArg some hfold
  simp only [Instr.build, Sem.run_bind, hz, run_underlying Tryd.underlying37, Result.andThen_ok, Value.cells]
  simp [Sem.run_bind, hs, hfill]

theorem wl_buildC {ops : Array Oper} {rest : List Oper} {o : Oper} {a : Act} {w : World} {Q : Exit → Act → World → Prop} (hg : o.guard = none) (x : Operand) (ho : o.op = .build 37 #[(0, x)]) (L : List Int) (hL : L.length = 13) (hx : a.eval x = .agg (hv L))
    (h : wpList Tryd.prog ops Q rest (a.put o.dst (.agg (cv L Z))) w) : wpList Tryd.prog ops Q (o :: rest) a w :=
  wpList_plain hg fun _ hK => by
    unfold Oper.wp execOp
    have e : (#[(0, x)] : Array (Nat × Operand)).map (fun (i, x) => (i, a.eval x)) = #[(0, .agg (hv L))] := by simp [hx]
    simp only [ho, Sem.run_bind]
    rw [e, built1 L hL]
    exact hK _ _ h

set_option maxHeartbeats 2000000 in
theorem right_any (V M : List Int) (hV : Byt V) (hM : Byt M) (w : World) :
    Calls Tryd.prog 16 #[.agg (cv V M)] w fun e w' => e = .returned (.bool (V == can V M)) ∧ Below w.heap.size w w' := by
  have hVl := hV.1
  have hMl := hM.1
  have hCl := (can_byt V M).1
  have C1 : Hid (∀ W, Calls Tryd.prog 28 #[.agg (cv V M)] W fun e w' => e = .returned (.agg (cv (can V M) M)) ∧ Below W.heap.size W w') := canon_any V M hV hM
  have eC : ∀ w, (Op.equalIn 10000 37 (.agg (cv V M)) (.agg (cv (can V M) M))).run Tryd.prog w = .ok (V == can V M) w := fun w => by rw [eqC V M (can V M) M hVl hMl hCl hMl]; simp
  have eg : ∀ op x y (xs ys : Array Value) w, (eqGuard op 37 x y (.agg xs) (.agg ys)).run Tryd.prog w = .ok () w := egC
  clear hV hM
  go_enter Tryd.func16, Tryd.ntmps16
  go_wp2_with fail
  have g0 := heap_new w (.cells (cv V M) 37) _ rfl
  have hb := (Below.refl w.heap.size w).alloc (Nat.le_refl _) (.cells (cv V M) 37)
  obtain ⟨W, hW⟩ : ∃ W, W = w.alloc (.cells (cv V M) 37) := ⟨_, rfl⟩
  rw [← hW] at g0 hb ⊢
  clear hW
  have ne1 := Later.ne W
  refine wp_region_later (by kernel_rfl) (by kernel_rfl) ?_
  refine qlC rfl _ rfl w.heap.size rfl V M g0 hVl hMl ?_
  simp only [Act.put, List.setIfInBounds_toArray, List.set_cons_succ, List.set_cons_zero]
  refine qlC rfl _ rfl w.heap.size rfl V M g0 hVl hMl ?_
  simp only [Act.put, List.setIfInBounds_toArray, List.set_cons_succ, List.set_cons_zero]
  go_big_quiet_want; go_big_quiet_op
  refine ⟨_, fun u => Calls.later_of (C1.out u.world), ?_⟩
  go_big_quiet_on
  repeat go_big_quiet_step (fail)
  refine wpQuiet_nil ?_
  rintro w' ⟨u, rfl⟩
  go_wp2
  go_ret
  exact ⟨rfl, hb.trans (u.below.mono hb.size)⟩
end Go.Proofs.YtplnlmkmaapbaaaDoor
