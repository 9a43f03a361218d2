import Derived.Test.YtfbphblodankmaaWTake
import Derived.Test.YtfbphblodankmaaOrders
import Derived.Test.YtfbphblodankmaaWRight
import Derived.Test.YtfbphblodankmaaRefCanon
import Derived.Laws.CopyOwn
namespace Go.Proofs.Ytfbphblodankmaa
open Go Go.RowKit
set_option maxRecDepth 20000

/-- One operation of a drawn region, by the laws for a list of them. -/
theorem wpOp_of_listW {P : Program} {ops : Array Oper} {Q : Exit → Act → World → Prop} {i : Nat} {o : Oper} {K : Act → World → Prop} {a : Act} {w : World} (hi : ops[i]? = some o)
    (h : wpList P ops (fun e a' w' => match e with | .normal => K a' w' | e => Q e a' w') [o] a w) : wpOp P ops Q i K a w := by
  unfold Go.wpOp
  simp only [hi]
  unfold wpList at h
  by_cases hw : Region.wanted o (yielded ops a.tmps) = true
  · rw [if_pos hw] at h ⊢
    rcases h with h | h
    · refine .inl ?_
      unfold Oper.wp at h ⊢
      revert h
      generalize (execOp a.eval o).run P w = r
      intro h
      unfold Oper.upon at h ⊢
      split at h
      · exact h
      · exact h
      · exact h
      · refine h.mono ?_
        intro e w1 h1
        cases e <;> exact h1
      · exact h
      · exact h
      · exact h.elim
    · exact .inr h
  · rw [if_neg hw] at h ⊢
    exact h
/-- Bytes as numbers, and back. -/
def nI (B : List UInt8) : List Int := B.map fun b => (b.toNat : Int)
def toB (V : List Int) : List UInt8 := V.map fun x => UInt8.ofNat x.toNat
theorem nI_len (B : List UInt8) : (nI B).length = B.length := by simp [nI]
theorem toB_len (V : List Int) : (toB V).length = V.length := by simp [toB]
theorem toB_nI (B : List UInt8) : toB (nI B) = B := by
  unfold toB nI
  rw [List.map_map]
  conv => rhs; rw [← List.map_id B]
  refine List.map_congr_left fun b _ => ?_
  simp
theorem nI_byt (B : List UInt8) (h : B.length = 13) : Byt (nI B) := by
  refine ⟨by rw [nI_len, h], fun k => ?_⟩
  unfold nI
  rw [List.getD_eq_getElem?_getD, List.getElem?_map]
  cases hq : B[k]? with
  | none => simp
  | some b =>
    have := b.toNat_lt
    simp
    omega
theorem byt_at {V : List Int} (hV : Byt V) (k : Nat) (hk : k < 13) : ((toB V).getD k 0).toNat = (V.getD k 0).toNat ∧ (((toB V).getD k 0).toNat : Int) = V.getD k 0 := by
  have h := hV.2 k
  have e : (toB V).getD k 0 = UInt8.ofNat (V.getD k 0).toNat := by
    unfold toB
    rw [List.getD_eq_getElem?_getD, List.getD_eq_getElem?_getD, List.getElem?_map, List.getElem?_eq_getElem (by rw [hV.1]; exact hk)]
    rfl
  rw [e, UInt8.toNat_ofNat']
  omega
theorem nI_toB {V : List Int} (hV : Byt V) : nI (toB V) = V := by
  apply List.ext_getElem?
  intro k
  by_cases hk : k < 13
  · have h := (byt_at hV k hk).2
    have l1 : k < (nI (toB V)).length := by rw [nI_len, toB_len, hV.1]; exact hk
    have l2 : k < V.length := by rw [hV.1]; exact hk
    have l3 : k < (toB V).length := by rw [toB_len, hV.1]; exact hk
    rw [List.getElem?_eq_getElem l1, List.getElem?_eq_getElem l2]
    rw [List.getD_eq_getElem?_getD, List.getElem?_eq_getElem l3, List.getD_eq_getElem?_getD, List.getElem?_eq_getElem l2] at h
    simp only [Option.getD_some] at h
    congr 1
    simp only [nI, List.getElem_map]
    exact h
  · rw [List.getElem?_eq_none (by rw [nI_len, toB_len, hV.1]; omega), List.getElem?_eq_none (by rw [hV.1]; omega)]
theorem hv_bytes (B : List UInt8) : hv (nI B) = (Lib.byteCells B).toArray := by
  unfold hv nI Lib.byteCells
  rw [List.map_map]
  rfl
/-- A cube's two halves as slices of its block. -/
theorem bsl_val {w : World} {g : Nat} {V M : List Int} (hV : Byt V) (h : w.heap[g]? = some (.cells (cv V M) 36 (0, 0))) : BSl w (.slice (some ⟨g, 0, none⟩) 13 13) (toB V) := by
  have hl : (toB V).length = 13 := by rw [toB_len, hV.1]
  refine ⟨_, 13, by rw [hl], by rw [hl]; exact Nat.le_refl _, by unfold maxLen; omega, (fun e => by cases e), fun i hi => ⟨g, 0, _, _, _, rfl, h, ?_⟩⟩
  rw [hl] at hi
  rw [Nat.zero_add, cv_val V M hV.1 i hi, ← (byt_at hV i hi).2, List.getD_eq_getElem?_getD, List.getElem?_eq_getElem (by omega)]
  rfl
theorem bsl_mask {w : World} {g : Nat} {V M : List Int} (hV : Byt V) (hM : Byt M) (h : w.heap[g]? = some (.cells (cv V M) 36 (0, 0))) : BSl w (.slice (some ⟨g, 13, none⟩) 13 13) (toB M) := by
  have hl : (toB M).length = 13 := by rw [toB_len, hM.1]
  refine ⟨_, 13, by rw [hl], by rw [hl]; exact Nat.le_refl _, by unfold maxLen; omega, (fun e => by cases e), fun i hi => ⟨g, 13, _, _, _, rfl, h, ?_⟩⟩
  rw [hl] at hi
  rw [cv_mask V M hV.1 hM.1 i hi, ← (byt_at hM i hi).2, List.getD_eq_getElem?_getD, List.getElem?_eq_getElem (by omega)]
  rfl
/-- A cube's bytes. -/
def cubeB (V M : List Int) : List UInt8 := toB V ++ toB M

set_option maxHeartbeats 4000000 in
theorem putCube_any (v : Value) (L : List UInt8) (V M : List Int) (hV : Byt V) (hM : Byt M) (w : World) (hL : BSl w v L) (hl : L.length ≤ 140737488351232) :
    Calls Try.prog 15 #[v, .agg (cv V M)] w fun e w' => ∃ u, e = .returned u ∧ BOwn w.heap.size w' u (L ++ cubeB (can V M) M) ∧ Below w.heap.size w w' := by
  have HL : Hid (BSl w v L) := hL
  obtain ⟨ov, nv, cx, rfl⟩ : ∃ o n c, v = .slice o n c := by obtain ⟨o, c, h, _⟩ := hL.slice; exact ⟨o, _, c, h⟩
  have hVl := hV.1
  have hMl := hM.1
  have hC := can_byt V M
  have hCl := hC.1
  have CC : Hid (∀ W, Calls Try.prog 30 #[.agg (cv V M)] W fun e w' => e = .returned (.agg (cv (can V M) M)) ∧ Below W.heap.size W w') := canon_any V M hV hM
  have HC : Hid (Byt (can V M) ∧ Byt M) := ⟨hC, hM⟩
  have HJ : Hid (∀ (g2 g : Nat) (W : World), W.heap[g2]? = some (.cells #[.slice ov nv cx, .slice (some ⟨g, 0, none⟩) 13 13, .slice (some ⟨g, 13, none⟩) 13 13] 22 (0, 0)) → BSl W (.slice ov nv cx) L → W.heap[g]? = some (.cells (cv (can V M) M) 36 (0, 0)) → Calls Try.prog 26 #[.slice (some ⟨g2, 0, none⟩) 3 3] W fun e w' => ∃ v, e = .returned v ∧ BOwn W.heap.size w' v (L ++ cubeB (can V M) M) ∧ Below W.heap.size W w') := fun g2 g W h1 h2 h3 => by
    refine (join_any g2 [.slice ov nv cx, .slice (some ⟨g, 0, none⟩) 13 13, .slice (some ⟨g, 13, none⟩) 13 13] [L, toB (can V M), toB M] W h1 (by simp) ⟨h2, bsl_val hC h3, bsl_mask hC hM h3, trivial⟩ ?_).mono ?_
    · simp [toB_len, hCl, hMl]; omega
    · rintro e w' ⟨u, rfl, h4, h5⟩
      exact ⟨u, rfl, by simpa [cubeB] using h4, h5⟩
  have g0 := heap_new w (.cells (cv V M) 36) _ rfl
  have B0 : Below w.heap.size w (w.alloc (.cells (cv V M) 36)) := (Below.refl _ _).alloc (Nat.le_refl _) _
  clear hL hl hV hM hC
  go_enter Try.func15, Try.ntmps15
  go_wp2_with (first
    | (refine wl_loadC rfl _ rfl w.heap.size rfl V M g0 hVl hMl ?_))
  refine (CC.out _).mono ?_
  rintro e w1 ⟨rfl, hb1⟩
  have g1 : w1.heap[w.heap.size]? = some (.cells (cv V M) 36 (0, 0)) := (hb1.block _ (by simp)).trans g0
  have B1 : Below w.heap.size w w1 := B0.trans (hb1.mono (by simp))
  clear g0 B0 hb1
  go_wp2_with (first
    | (refine wl_storeC rfl _ _ rfl w.heap.size (can V M) M rfl rfl _ g1 (cv_size V M hVl hMl) hCl hMl _ rfl ?_))
  have g2 := setRow_heap w1 w.heap.size _ (cv (can V M) M) _ _ g1
  have B2 := below_setRow B1 (Nat.le_refl w.heap.size) (cv (can V M) M)
  obtain ⟨W, hW⟩ : ∃ W, W = w1.setRow w.heap.size (cv (can V M) M) := ⟨_, rfl⟩
  rw [← hW] at g2 B2 ⊢
  clear hW g1 B1
  have hgs := (Array.getElem?_eq_some_iff.1 g2).1
  have ne1 := Later.ne W
  have HLW : Hid (∀ u : Later W, BSl u.world (.slice ov nv cx) L) := fun u => HL.out.below (B2.trans (u.below.mono B2.size))
  have HG : Hid (∀ u : Later W, u.world.heap[w.heap.size]? = some (.cells (cv (can V M) M) 36 (0, 0))) := fun u => (u.below.block _ hgs).trans g2
  simp only [Act.put]
  refine region_cut (fun a a' w' => ∃ u y7 y8 y9 y10 y11 y12 y13, a' = ((((((((a.put (some 7) y7).put (some 8) y8).put (some 9) y9).put (some 10) y10).put (some 11) y11).put (some 12) y12).put (some 13) y13).put (some 4) u) ∧ BOwn w.heap.size w' u (L ++ cubeB (can V M) M) ∧ Below W.heap.size W w') ?_ ?_
  · refine region_begin 8 rfl (by kernel_rfl) ?_
    refine region_reads 0 5 3 rfl (by kernel_rfl) (by kernel_rfl) (by kernel_rfl) (by intro d v c a w h; exact absurd h.1 (by simp)) ⟨⟨W.drew, (Below.refl _ _).drew⟩, rfl⟩ ?_
    simp only [List.drop_zero, List.take_succ_cons, List.take_zero]
    go_big_quiet_step (fail)
    go_big_quiet_step (fail)
    go_big_quiet_step (fail)
    go_big_quiet_step (fail)
    go_big_quiet_step (fail)
    refine wpQuiet_nil ?_
    refine wpAnyH_all (rs := [5]) (by kernel_rfl) (by decide) ?_
    intro i hi
    obtain rfl := List.mem_singleton.1 hi
    refine wpOp_of_listW rfl ?_
    refine wl_lists rfl 3 _ rfl #[.slice ov nv cx, .slice (some ⟨w.heap.size, 0, none⟩) 13 13, .slice (some ⟨w.heap.size, 13, none⟩) 13 13] (by decide) (by decide) (by first | rfl | kernel_rfl | (simp [Instr.fill, Act.eval, Value.cells]; done)) ?_
    have hB3 : Below W.heap.size W (W.drew.alloc (.cells #[.slice ov nv cx, .slice (some ⟨w.heap.size, 0, none⟩) 13 13, .slice (some ⟨w.heap.size, 13, none⟩) 13 13] 22)) := (Below.refl _ _).drew.alloc (Nat.le_refl _) _
    refine ⟨⟨⟨_, hB3⟩, rfl⟩, ?_⟩
    simp only [Act.put, List.setIfInBounds_toArray, List.set_cons_succ, List.set_cons_zero]
    refine wpAnyH_all (rs := [6]) (by kernel_rfl) (by decide) ?_
    intro i hi
    obtain rfl := List.mem_singleton.1 hi
    refine wpOp_call rfl rfl 26 #[.tmp 12] (by intro b w; have hf := Try.func26; simp [go_sem]) #[.slice (some ⟨W.drew.heap.size, 0, none⟩) 3 3] rfl (fun v w' => BOwn w.heap.size w' v (L ++ cubeB (can V M) M) ∧ Below W.heap.size W w') ((HJ.out W.drew.heap.size w.heap.size _ (heap_new _ _ _ rfl) (HLW.out ⟨_, hB3⟩) (HG.out ⟨_, hB3⟩)).mono fun e w' ⟨v, h1, h2, h3⟩ => ⟨v, h1, h2.base (Nat.le_trans B2.size hB3.size), hB3.trans (h3.mono hB3.size)⟩) (some 13) rfl ?_
    rintro z w4 ⟨ho4, hb4⟩
    refine ⟨⟨⟨w4, hb4⟩, rfl⟩, ?_⟩
    refine wpAnyH_all (rs := [7]) (by kernel_rfl) (by decide) ?_
    intro i hi
    obtain rfl := List.mem_singleton.1 hi
    refine wpOp_assign rfl rfl _ rfl z rfl (some 4) rfl ?_
    refine ⟨⟨⟨w4, hb4⟩, rfl⟩, ?_⟩
    refine wpAnyH_done (by kernel_rfl) ?_ _
    exact ⟨rfl, _, _, _, _, _, _, _, _, rfl, ho4, hb4⟩
  · rintro a' w4 ⟨z, y7, y8, y9, y10, y11, y12, y13, rfl, ho4, hb4⟩
    simp only [Act.put, List.setIfInBounds_toArray, List.set_cons_succ, List.set_cons_zero]
    go_wp2_with fail
    go_ret
    exact ⟨z, rfl, ho4, B2.trans (hb4.mono B2.size)⟩
end Go.Proofs.Ytfbphblodankmaa
