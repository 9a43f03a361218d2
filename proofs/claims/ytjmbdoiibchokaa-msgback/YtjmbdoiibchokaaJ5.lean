import Derived.Test.YtjmbdoiibchokaaJ4
import Derived.Test.YtjmbdoiibchokaaJ3
import Derived.Laws.CopyOwn
import Derived.Test.YtjmbdoiibchokaaProg
import Derived.Test.YtjmbdoiibchokaaJ1
import Derived.Lib.Bytealg
import Derived.Lib.UnsafeStr
import Derived.Lib.BufferWrite
import Derived.Laws.MakeOwn
import Derived.OwnWalk
import Derived.Test.YtjmbdoiibchokaaJ2
namespace Go.Proofs.Ytjmbdoiibchokaa
open Go Go.RowKit
set_option maxRecDepth 20000

theorem wl_zeroC {ops : Array Oper} {rest : List Oper} {o : Oper} {a : Act} {w : World} {Q : Exit → Act → World → Prop} (hg : o.guard = none) (ho : o.op = .build 25 #[])
    (h : wpList Try.prog ops Q rest (a.put o.dst (.agg (cv Z Z))) w) : wpList Try.prog ops Q (o :: rest) a w :=
  wpList_plain hg fun _ hK => by
    unfold Oper.wp execOp
    have e : ((#[] : Array (Nat × Operand)).map (fun (i, x) => (i, a.eval x))) = #[] := by simp
    have hb : (Instr.build 25 #[]).run Try.prog w = .ok (.agg (cv Z Z)) w := by
      rw [← zeroC_eq]; kernel_rfl
    simp only [ho, Sem.run_bind]
    rw [e, hb]
    exact hK _ _ h

set_option maxHeartbeats 2000000 in
theorem rcanon_any (V M : List Int) (hV : Byt V) (hM : Byt M) (w : World) :
    Calls Try.prog 23 #[.agg (cv V M)] w fun e w' => e = .returned (.agg (cv (can V M) M)) ∧ Below w.heap.size w w' := by
  have hVl := hV.1
  have hMl := hM.1
  have hzl := Z_byt.1
  obtain ⟨fV, hfV⟩ : ∃ f : Nat → Bool, f = fun i => bt V i && bt M i := ⟨_, rfl⟩
  obtain ⟨fM, hfM⟩ : ∃ f : Nat → Bool, f = bt M := ⟨_, rfl⟩
  have CA : Hid (∀ k : Nat, k < 104 → ∀ W, Calls Try.prog 38 #[.agg (cv V M), .int .i64 (k : Int)] W fun e w' => e = .returned (.int .i64 (atI V M k)) ∧ Below W.heap.size W w') := fun k hk => at_any V M hV hM k hk
  have CS : Hid (∀ k : Nat, k < 104 → ∀ W, Calls Try.prog 37 #[.agg (cv (upto k fV) (upto k fM)), .int .i64 (k : Int), .int .i64 (atI V M k)] W fun e w' => e = .returned (.agg (cv (upto (k + 1) fV) (upto (k + 1) fM))) ∧ Below W.heap.size W w') := fun k hk => by
    have := rset_any _ _ (upto_byt k fV) (upto_byt k fM) k hk (atI V M k)
    rwa [at_ne2, at_eq1, show (bt V k && bt M k) = fV k by rw [hfV], show bt M k = fM k by rw [hfM], upto_succ, upto_succ] at this
  have HE : Hid (upto 104 fV = can V M ∧ upto 104 fM = M) := by
    show _ ∧ _
    rw [upto_all, upto_all, hfV, hfM]; exact ⟨rfl, mk_of M hM⟩
  clear hV hM hfV hfM
  have lV : ∀ k, (upto k fV).length = 13 := fun k => (upto_byt k fV).1
  have lM : ∀ k, (upto k fM).length = 13 := fun k => (upto_byt k fM).1
  go_enter Try.func23, Try.ntmps23
  go_wp2_with (first
    | (refine wl_zeroC rfl rfl ?_)
    | (refine wl_storeC rfl _ _ rfl (w.heap.size + 2) Z Z rfl rfl _ (heap_new _ _ _ (by simp)) rfl hzl hzl _ (setRow_new _ _ _ _ _ (by simp)) ?_))
  go_loopw [4] (fun i wr => ∃ k : Nat, k ≤ 104 ∧ i = .int .i64 k ∧ wr.heap[w.heap.size]? = some (.cells (cv V M) 25 (0, 0)) ∧ wr.heap[w.heap.size + 1]? = some (.cells zeroC 25 (0, 0)) ∧ wr.heap[w.heap.size + 2]? = some (.cells (cv (upto k fV) (upto k fM)) 25 (0, 0)) ∧ Below w.heap.size w wr) (fun i _ => 104 - (intOf i).toNat)
  case atStart => exact ⟨0, Nat.zero_le _, rfl, heap_past _ _ _ _ (heap_past _ _ _ _ (heap_new _ _ _ rfl)), heap_past _ _ _ _ (heap_new _ _ _ (by simp)), by rw [upto_zero, upto_zero]; exact heap_new _ _ _ (by simp), (((Below.refl _ _).alloc (Nat.le_refl _) _).alloc (by simp) _).alloc (by simp; omega) _⟩
  case round =>
    obtain ⟨k, hk, rfl, g0, g1, g2, hb⟩ := hrel
    have l1 := lV k
    have l2 := lM k
    have l3 := lV (k + 1)
    have l4 := lM (k + 1)
    by_cases hlt : k < 104
    · have C1 : Hid (∀ W, Calls Try.prog 38 #[.agg (cv V M), .int .i64 (k : Int)] W fun e w' => e = .returned (.int .i64 (atI V M k)) ∧ Below W.heap.size W w') := CA.out k hlt
      have C2 : Hid (∀ W, Calls Try.prog 37 #[.agg (cv (upto k fV) (upto k fM)), .int .i64 (k : Int), .int .i64 (atI V M k)] W fun e w' => e = .returned (.agg (cv (upto (k + 1) fV) (upto (k + 1) fM))) ∧ Below W.heap.size W w') := CS.out k hlt
      go_wp2_with fail
      have ne1 := Later.ne wr
      refine wp_region_latertail 6 (by kernel_rfl) (by kernel_rfl) ?_
      simp only [List.take_succ_cons, List.take_zero, List.drop_succ_cons, List.drop_zero]
      refine qlC rfl _ rfl (w.heap.size + 2) rfl (upto k fV) (upto k fM) g2 l1 l2 ?_
      simp only [Act.put, List.setIfInBounds_toArray, List.set_cons_succ, List.set_cons_zero]
      go_big_quiet_step (fail)
      refine qlC rfl _ rfl w.heap.size rfl V M g0 hVl hMl ?_
      simp only [Act.put, List.setIfInBounds_toArray, List.set_cons_succ, List.set_cons_zero]
      go_big_quiet_step (fail)
      go_big_quiet_want; go_big_quiet_op
      refine ⟨_, fun u => Calls.later_of (C1.out u.world), ?_⟩
      go_big_quiet_on
      go_big_quiet_want; go_big_quiet_op
      refine ⟨_, fun u => Calls.later_of (C2.out u.world), ?_⟩
      go_big_quiet_on
      refine wpQuiet_nil ?_
      rintro w' ⟨u, rfl⟩
      have k0 := later_block g0 _ ⟨u, rfl⟩
      have k1 := later_block g1 _ ⟨u, rfl⟩
      have k2 := later_block g2 _ ⟨u, rfl⟩
      have hb2 := hb.trans (u.below.mono hb.size)
      clear g0 g1 g2 hb ne1 C1 C2
      go_wp2_with (first
        | (refine wl_storeC rfl _ _ rfl (w.heap.size + 2) (upto (k + 1) fV) (upto (k + 1) fM) rfl rfl _ k2 (cv_size _ _ l1 l2) l3 l4 _ rfl ?_))
      go_roundw
      case rel =>
        exact ⟨k + 1, by omega, by go_num, (setRow_other _ _ _ _ (by omega)).trans k0, (setRow_other _ _ _ _ (by omega)).trans k1, setRow_heap _ _ _ _ _ _ k2, below_setRow hb2 (by omega) _⟩
      case measure => simp [intOf]; omega
    · obtain rfl : k = 104 := by omega
      rw [HE.out.1, HE.out.2] at g2
      have hCl := (can_byt V M).1
      go_wp2_with (first
        | (refine wl_loadC rfl _ rfl (w.heap.size + 2) rfl (can V M) M g2 hCl hMl ?_)
        | (refine wl_storeC rfl _ _ rfl (w.heap.size + 1) (can V M) M rfl rfl _ g1 rfl hCl hMl _ rfl ?_))
      refine retC (p := 2) rfl rfl (w.heap.size + 1) rfl (can V M) M hCl hMl (setRow_heap _ _ _ _ _ _ g1) ⟨rfl, ?_⟩
      exact below_setRow hb (by omega) _

end Go.Proofs.Ytjmbdoiibchokaa
namespace Go.Proofs.Ytjmbdoiibchokaa
open Go Go.RowKit
set_option maxRecDepth 20000

/-- One operation of a drawn region, by the laws for a list of them. -/
theorem wpOp_of_listW {P : Program} {ops : Array Oper} {Q : Exit → Act → World → Prop} {i : Nat} {o : Oper} {K : Act → World → Prop} {a : Act} {w : World} (hi : ops[i]? = some o)
    (h : wpList P ops (fun e a' w' => match e with | .normal => K a' w' | e => Q e a' w') [o] a w) : wpOp P ops Q i K a w := by
  unfold Go.wpOp
  simp only [hi]
  unfold wpList at h
  by_cases hw : Region.wanted o (yielded ops a.tmps) = true
  · rw [if_pos hw] at h ⊢
    rcases h with h | h
    · refine .inl ?_
      unfold Oper.wp at h ⊢
      revert h
      generalize (execOp a.eval o).run P w = r
      intro h
      unfold Oper.upon at h ⊢
      split at h
      · exact h
      · exact h
      · exact h
      · refine h.mono ?_
        intro e w1 h1
        cases e <;> exact h1
      · exact h
      · exact h
      · exact h.elim
    · exact .inr h
  · rw [if_neg hw] at h ⊢
    exact h
/-- A cube's two halves as slices of its block. -/
theorem bsl_val {w : World} {g : Nat} {V M : List Int} (hV : Byt V) (h : w.heap[g]? = some (.cells (cv V M) 25 (0, 0))) : BSl w (.slice (some ⟨g, 0, none⟩) 13 13) (toB V) := by
  have hl : (toB V).length = 13 := by rw [toB_len, hV.1]
  refine ⟨_, 13, by rw [hl], by rw [hl]; exact Nat.le_refl _, by unfold maxLen; omega, (fun e => by cases e), fun i hi => ⟨g, 0, _, _, _, rfl, h, ?_⟩⟩
  rw [hl] at hi
  rw [Nat.zero_add, cv_val V M hV.1 i hi, ← (byt_at hV i hi).2, List.getD_eq_getElem?_getD, List.getElem?_eq_getElem (by omega)]
  rfl
theorem bsl_mask {w : World} {g : Nat} {V M : List Int} (hV : Byt V) (hM : Byt M) (h : w.heap[g]? = some (.cells (cv V M) 25 (0, 0))) : BSl w (.slice (some ⟨g, 13, none⟩) 13 13) (toB M) := by
  have hl : (toB M).length = 13 := by rw [toB_len, hM.1]
  refine ⟨_, 13, by rw [hl], by rw [hl]; exact Nat.le_refl _, by unfold maxLen; omega, (fun e => by cases e), fun i hi => ⟨g, 13, _, _, _, rfl, h, ?_⟩⟩
  rw [hl] at hi
  rw [cv_mask V M hV.1 hM.1 i hi, ← (byt_at hM i hi).2, List.getD_eq_getElem?_getD, List.getElem?_eq_getElem (by omega)]
  rfl

set_option maxHeartbeats 4000000 in
theorem putCube_any (v : Value) (L : List UInt8) (V M : List Int) (hV : Byt V) (hM : Byt M) (w : World) (hL : BSl w v L) (hl : L.length ≤ 140737488351232) :
    Calls Try.prog 42 #[v, .agg (cv V M)] w fun e w' => ∃ u, e = .returned u ∧ BOwn w.heap.size w' u (L ++ cubeB (can V M) M) ∧ Below w.heap.size w w' := by
  have HL : Hid (BSl w v L) := hL
  obtain ⟨ov, nv, cx, rfl⟩ : ∃ o n c, v = .slice o n c := by obtain ⟨o, c, h, _⟩ := hL.slice; exact ⟨o, _, c, h⟩
  have hVl := hV.1
  have hMl := hM.1
  have hC := can_byt V M
  have hCl := hC.1
  have CC : Hid (∀ W, Calls Try.prog 47 #[.agg (cv V M)] W fun e w' => e = .returned (.agg (cv (can V M) M)) ∧ Below W.heap.size W w') := canon_any V M hV hM
  have HC : Hid (Byt (can V M) ∧ Byt M) := ⟨hC, hM⟩
  have HJ : Hid (∀ (g2 g : Nat) (W : World), W.heap[g2]? = some (.cells #[.slice ov nv cx, .slice (some ⟨g, 0, none⟩) 13 13, .slice (some ⟨g, 13, none⟩) 13 13] 30 (0, 0)) → BSl W (.slice ov nv cx) L → W.heap[g]? = some (.cells (cv (can V M) M) 25 (0, 0)) → Calls Try.prog 39 #[.slice (some ⟨g2, 0, none⟩) 3 3] W fun e w' => ∃ v, e = .returned v ∧ BOwn W.heap.size w' v (L ++ cubeB (can V M) M) ∧ Below W.heap.size W w') := fun g2 g W h1 h2 h3 => by
    refine (join_any g2 [.slice ov nv cx, .slice (some ⟨g, 0, none⟩) 13 13, .slice (some ⟨g, 13, none⟩) 13 13] [L, toB (can V M), toB M] W h1 (by simp) ⟨h2, bsl_val hC h3, bsl_mask hC hM h3, trivial⟩ ?_).mono ?_
    · simp [toB_len, hCl, hMl]; omega
    · rintro e w' ⟨u, rfl, h4, h5⟩
      exact ⟨u, rfl, by simpa [cubeB] using h4, h5⟩
  have g0 := heap_new w (.cells (cv V M) 25) _ rfl
  have B0 : Below w.heap.size w (w.alloc (.cells (cv V M) 25)) := (Below.refl _ _).alloc (Nat.le_refl _) _
  clear hL hl hV hM hC
  go_enter Try.func42, Try.ntmps42
  go_wp2_with (first
    | (refine wl_loadC rfl _ rfl w.heap.size rfl V M g0 hVl hMl ?_))
  refine (CC.out _).mono ?_
  rintro e w1 ⟨rfl, hb1⟩
  have g1 : w1.heap[w.heap.size]? = some (.cells (cv V M) 25 (0, 0)) := (hb1.block _ (by simp)).trans g0
  have B1 : Below w.heap.size w w1 := B0.trans (hb1.mono (by simp))
  clear g0 B0 hb1
  go_wp2_with (first
    | (refine wl_storeC rfl _ _ rfl w.heap.size (can V M) M rfl rfl _ g1 (cv_size V M hVl hMl) hCl hMl _ rfl ?_))
  have g2 := setRow_heap w1 w.heap.size _ (cv (can V M) M) _ _ g1
  have B2 := below_setRow B1 (Nat.le_refl w.heap.size) (cv (can V M) M)
  obtain ⟨W, hW⟩ : ∃ W, W = w1.setRow w.heap.size (cv (can V M) M) := ⟨_, rfl⟩
  rw [← hW] at g2 B2 ⊢
  clear hW g1 B1
  have hgs := (Array.getElem?_eq_some_iff.1 g2).1
  have ne1 := Later.ne W
  have HLW : Hid (∀ u : Later W, BSl u.world (.slice ov nv cx) L) := fun u => HL.out.below (B2.trans (u.below.mono B2.size))
  have HG : Hid (∀ u : Later W, u.world.heap[w.heap.size]? = some (.cells (cv (can V M) M) 25 (0, 0))) := fun u => (u.below.block _ hgs).trans g2
  simp only [Act.put]
  refine region_cut (fun a a' w' => ∃ u y7 y8 y9 y10 y11 y12 y13, a' = ((((((((a.put (some 7) y7).put (some 8) y8).put (some 9) y9).put (some 10) y10).put (some 11) y11).put (some 12) y12).put (some 13) y13).put (some 4) u) ∧ BOwn w.heap.size w' u (L ++ cubeB (can V M) M) ∧ Below W.heap.size W w') ?_ ?_
  · refine region_begin 8 rfl (by kernel_rfl) ?_
    refine region_reads 0 5 3 rfl (by kernel_rfl) (by kernel_rfl) (by kernel_rfl) (by intro d v c a w h; exact absurd h.1 (by simp)) ⟨⟨W.drew, (Below.refl _ _).drew⟩, rfl⟩ ?_
    simp only [List.drop_zero, List.take_succ_cons, List.take_zero]
    go_big_quiet_step (fail)
    go_big_quiet_step (fail)
    go_big_quiet_step (fail)
    go_big_quiet_step (fail)
    go_big_quiet_step (fail)
    refine wpQuiet_nil ?_
    refine wpAnyH_all (rs := [5]) (by kernel_rfl) (by decide) ?_
    intro i hi
    obtain rfl := List.mem_singleton.1 hi
    refine wpOp_of_listW rfl ?_
    refine wl_lists rfl 3 _ rfl #[.slice ov nv cx, .slice (some ⟨w.heap.size, 0, none⟩) 13 13, .slice (some ⟨w.heap.size, 13, none⟩) 13 13] (by decide) (by decide) (by first | rfl | kernel_rfl | (simp [Instr.fill, Act.eval, Value.cells]; done)) ?_
    have hB3 : Below W.heap.size W (W.drew.alloc (.cells #[.slice ov nv cx, .slice (some ⟨w.heap.size, 0, none⟩) 13 13, .slice (some ⟨w.heap.size, 13, none⟩) 13 13] 30)) := (Below.refl _ _).drew.alloc (Nat.le_refl _) _
    refine ⟨⟨⟨_, hB3⟩, rfl⟩, ?_⟩
    simp only [Act.put, List.setIfInBounds_toArray, List.set_cons_succ, List.set_cons_zero]
    refine wpAnyH_all (rs := [6]) (by kernel_rfl) (by decide) ?_
    intro i hi
    obtain rfl := List.mem_singleton.1 hi
    refine wpOp_call rfl rfl 39 #[.tmp 12] (by intro b w; have hf := Try.func39; simp [go_sem]) #[.slice (some ⟨W.drew.heap.size, 0, none⟩) 3 3] rfl (fun v w' => BOwn w.heap.size w' v (L ++ cubeB (can V M) M) ∧ Below W.heap.size W w') ((HJ.out W.drew.heap.size w.heap.size _ (heap_new _ _ _ rfl) (HLW.out ⟨_, hB3⟩) (HG.out ⟨_, hB3⟩)).mono fun e w' ⟨v, h1, h2, h3⟩ => ⟨v, h1, h2.base (Nat.le_trans B2.size hB3.size), hB3.trans (h3.mono hB3.size)⟩) (some 13) rfl ?_
    rintro z w4 ⟨ho4, hb4⟩
    refine ⟨⟨⟨w4, hb4⟩, rfl⟩, ?_⟩
    refine wpAnyH_all (rs := [7]) (by kernel_rfl) (by decide) ?_
    intro i hi
    obtain rfl := List.mem_singleton.1 hi
    refine wpOp_assign rfl rfl _ rfl z rfl (some 4) rfl ?_
    refine ⟨⟨⟨w4, hb4⟩, rfl⟩, ?_⟩
    refine wpAnyH_done (by kernel_rfl) ?_ _
    exact ⟨rfl, _, _, _, _, _, _, _, _, rfl, ho4, hb4⟩
  · rintro a' w4 ⟨z, y7, y8, y9, y10, y11, y12, y13, rfl, ho4, hb4⟩
    simp only [Act.put, List.setIfInBounds_toArray, List.set_cons_succ, List.set_cons_zero]
    go_wp2_with fail
    go_ret
    exact ⟨z, rfl, ho4, B2.trans (hb4.mono B2.size)⟩
end Go.Proofs.Ytjmbdoiibchokaa
namespace Go.Proofs.Ytjmbdoiibchokaa
open Go
set_option maxRecDepth 20000

/-- A token. -/
structure Tok where
  kind : Nat
  pos : Nat
  text : List UInt8
  num : Nat

/-- Digits as a number. -/
def val (D : List UInt8) : Nat := D.foldl (fun n c => n * 10 + (c.toNat - 48)) 0
end Go.Proofs.Ytjmbdoiibchokaa
namespace Go.Proofs.Ytjmbdoiibchokaa
open Go Go.RowKit
set_option maxRecDepth 20000

theorem byte_q (s : ByteArray) (k : Nat) (hk : k < s.size) : s.data.toList[k]? = some s[k] := by
  rw [List.getElem?_eq_getElem (by simpa using hk)]; rfl

end Go.Proofs.Ytjmbdoiibchokaa
namespace Go.Proofs.Ytjmbdoiibchokaa
open Go Go.RowKit
set_option maxRecDepth 20000

theorem eqFields_step {P : Program} (w : World) {d : Nat} {xs ys : Array Value} {f : Field} {fs : List Field} {a b : Value} {r R : Bool} (hn : f.name ≠ "_") (ha : (part f.type xs f.offset).run P w = .ok a w) (hb : (part f.type ys f.offset).run P w = .ok b w)
    (he : (Op.equalIn d f.type a b).run P w = .ok r w) (h : (Op.eqFields d xs ys fs).run P w = .ok R w) : (Op.eqFields d xs ys (f :: fs)).run P w = .ok (r && R) w := by
  simp only [Op.eqFields, if_pos hn, Sem.run_bind, ha, hb, he, Result.andThen_ok]
  cases r
  · simp
  · simpa using h
theorem part_cell {P : Program} (w : World) {t : TypeId} {xs : Array Value} {k : Nat} {v : Value} (ha : (isAgg t).run P w = .ok false w) (hx : xs[k]? = some v) : (part t xs k).run P w = .ok v w := by
  simp [part, ha, hx, Sem.run_bind]
end Go.Proofs.Ytjmbdoiibchokaa
namespace Go.Proofs.Ytjmbdoiibchokaa
open Go Go.Lib Go.RowKit
set_option maxRecDepth 20000

/-! A message in memory. -/
def msL (m : MsgM) : List Value := .int .i64 m.kind :: (m.num.map (Value.int .i64) ++ ((m.cube.1 ++ m.cube.2).map (Value.int .u8) ++ m.head.map (Value.int .u8)))
def msA (m : MsgM) : Array Value := (msL m).toArray
theorem msL_len {m : MsgM} (h : okM m) : (msL m).length = 53 := by
  unfold msL
  simp only [List.length_cons, List.length_append, List.length_map, h.1, h.2.1.1, h.2.2.1.1, h.2.2.2.1]
theorem msA_size {m : MsgM} (h : okM m) : (msA m).size = 53 := by
  unfold msA
  rw [List.size_toArray, msL_len h]
theorem ms_one (m : MsgM) : (msA m).all (·.oneCell') = true := by
  unfold msA msL
  simp [Value.oneCell']
theorem ms_fits {m : MsgM} (h : okM m) : (msA m).size = 53 ∧ (msA m).all (·.oneCell') = true := ⟨msA_size h, ms_one m⟩
theorem ms_kind (m : MsgM) : (msA m)[0]? = some (.int .i64 m.kind) := by
  unfold msA msL
  simp
theorem ms_num {m : MsgM} (h : okM m) (j : Nat) (hj : j < 13) : (msA m)[j + 1]? = some (.int .i64 (numM m j)) := by
  unfold msA msL numM
  rw [List.getElem?_toArray, List.getElem?_cons_succ, List.getElem?_append_left (by rw [List.length_map, h.1]; exact hj), List.getElem?_map, List.getD_eq_getElem?_getD, List.getElem?_eq_getElem (by rw [h.1]; exact hj)]
  rfl
theorem ms_cube {m : MsgM} (h : okM m) (j : Nat) (hj : j < 26) : (msA m)[14 + j]? = (cv m.cube.1 m.cube.2)[j]? := by
  unfold msA msL cv hv
  rw [List.getElem?_toArray, show 14 + j = (13 + j) + 1 by omega, List.getElem?_cons_succ, List.getElem?_append_right (by rw [List.length_map, h.1]; omega), List.length_map, h.1, Nat.add_sub_cancel_left, List.getElem?_append_left (by rw [List.length_map, List.length_append, h.2.1.1, h.2.2.1.1]; exact hj), List.getElem?_toArray]
theorem ms_head {m : MsgM} (h : okM m) (j : Nat) (hj : j < 13) : (msA m)[40 + j]? = (hv m.head)[j]? := by
  unfold msA msL hv
  rw [List.getElem?_toArray, show 40 + j = (39 + j) + 1 by omega, List.getElem?_cons_succ, List.getElem?_append_right (by rw [List.length_map, h.1]; omega), List.length_map, h.1, show 39 + j - 13 = 26 + j by omega, List.getElem?_append_right (by rw [List.length_map, List.length_append, h.2.1.1, h.2.2.1.1]; omega), List.length_map, List.length_append, h.2.1.1, h.2.2.1.1, Nat.add_sub_cancel_left, List.getElem?_toArray]
def MsG : Ag := ⟨27, 53⟩
theorem MsOk : MsG.Ok := ⟨⟨_, Try.underlying27, rfl⟩, by kernel_rfl⟩
def CuG : Ag := ⟨25, 26⟩
theorem CuGOk : CuG.Ok := ⟨⟨_, Try.underlying25, rfl⟩, by kernel_rfl⟩
def HeG : Ag := ⟨23, 13⟩
theorem HeOk : HeG.Ok := ⟨⟨_, Try.underlying23, rfl⟩, by kernel_rfl⟩
/-- A number, the cube, the header set. -/
def setN (m : MsgM) (j : Nat) (x : Int) : MsgM := { m with num := m.num.set j x }
def setC (m : MsgM) (V M : List Int) : MsgM := { m with cube := (V, M) }
def setH (m : MsgM) (L : List Int) : MsgM := { m with head := L }
theorem setN_ok {m : MsgM} (h : okM m) (j : Nat) (x : Int) : okM (setN m j x) := ⟨by unfold setN; simp [h.1], h.2⟩
theorem setC_ok {m : MsgM} (h : okM m) {V M : List Int} (hV : Byt V) (hM : Byt M) : okM (setC m V M) := ⟨h.1, hV, hM, h.2.2.2⟩
theorem setH_ok {m : MsgM} (h : okM m) {L : List Int} (hL : Byt L) : okM (setH m L) := ⟨h.1, h.2.1, h.2.2.1, hL⟩
theorem ms_setN {m : MsgM} (h : okM m) (j : Nat) (hj : j < 13) (x : Int) : (msA m).setIfInBounds (j + 1) (.int .i64 x) = msA (setN m j x) := by
  unfold msA msL setN
  rw [List.setIfInBounds_toArray, List.set_cons_succ, List.set_append_left _ _ (by rw [List.length_map, h.1]; exact hj), List.map_set]
theorem ms_setC {m : MsgM} (h : okM m) (V M : List Int) : ((msA m).toList.take 14 ++ (cv V M).toList ++ (msA m).toList.drop (14 + 26)).toArray = msA (setC m V M) := by
  obtain ⟨k, ns, ⟨V0, M0⟩, H⟩ := m
  have h1 : ns.length = 13 := h.1
  have h2 : V0.length = 13 := h.2.1.1
  have h3 : M0.length = 13 := h.2.2.1.1
  unfold msA msL setC cv hv
  dsimp only
  congr 1
  have e1 : (Value.int .i64 k :: (ns.map (Value.int .i64) ++ ((V0 ++ M0).map (Value.int .u8) ++ H.map (Value.int .u8)))).take 14 = Value.int .i64 k :: ns.map (Value.int .i64) := by
    rw [List.take_succ_cons, List.take_left' (by rw [List.length_map, h1])]
  have e2 : (Value.int .i64 k :: (ns.map (Value.int .i64) ++ ((V0 ++ M0).map (Value.int .u8) ++ H.map (Value.int .u8)))).drop (14 + 26) = H.map (Value.int .u8) := by
    rw [show 14 + 26 = (13 + 26) + 1 from rfl, List.drop_succ_cons, ← List.append_assoc, List.drop_left' (by rw [List.length_append, List.length_map, List.length_map, List.length_append, h1, h2, h3])]
  rw [e1, e2]
  simp
theorem ms_setH {m : MsgM} (h : okM m) (L : List Int) : ((msA m).toList.take 40 ++ (hv L).toList ++ (msA m).toList.drop (40 + 13)).toArray = msA (setH m L) := by
  obtain ⟨k, ns, ⟨V0, M0⟩, H⟩ := m
  have h1 : ns.length = 13 := h.1
  have h2 : V0.length = 13 := h.2.1.1
  have h3 : M0.length = 13 := h.2.2.1.1
  have h4 : H.length = 13 := h.2.2.2.1
  unfold msA msL setH hv
  dsimp only
  congr 1
  have e1 : (Value.int .i64 k :: (ns.map (Value.int .i64) ++ ((V0 ++ M0).map (Value.int .u8) ++ H.map (Value.int .u8)))).take 40 = Value.int .i64 k :: (ns.map (Value.int .i64) ++ (V0 ++ M0).map (Value.int .u8)) := by
    rw [List.take_succ_cons, ← List.append_assoc, List.take_left' (by rw [List.length_append, List.length_map, List.length_map, List.length_append, h1, h2, h3])]
  have e2 : (Value.int .i64 k :: (ns.map (Value.int .i64) ++ ((V0 ++ M0).map (Value.int .u8) ++ H.map (Value.int .u8)))).drop (40 + 13) = [] := by
    rw [List.drop_of_length_le]
    simp [h1, h2, h3, h4]
  rw [e1, e2]
  simp
set_option maxRecDepth 100000 in
/-- A message that has its kind alone. -/
theorem build_ms (k : Int) (W : World) : (Instr.build 27 #[(0, .int .i64 k)]).run Try.prog W = .ok (.agg (msA (zeroM k))) W := by
  unfold zeroM
  rw [Z_eq]
  kernel_rfl
set_option maxRecDepth 100000 in
theorem build_ms0 (W : World) : (Instr.build 27 #[]).run Try.prog W = .ok (.agg (msA (zeroM 0))) W := by
  unfold zeroM
  rw [Z_eq]
  kernel_rfl
theorem part_ms {E : Ag} (H : E.Ok) (A cs : Array Value) (off : Nat) (hcs : cs.size = E.size) (hA : ∀ j, j < E.size → A[off + j]? = cs[j]?) (hs : off + E.size ≤ A.size) (w : World) : (part E.elem A off).run Try.prog w = .ok (.agg cs) w := by
  obtain ⟨i, hq, hz⟩ : ∃ i, Try.prog.info? E.elem = some i ∧ i.size = E.size := by
    have h1 := H.hi
    cases h : Try.prog.info? E.elem with
    | none => rw [h] at h1; simp at h1
    | some i => rw [h] at h1; exact ⟨i, rfl, by simpa using h1⟩
  have hagg : (isAgg E.elem).run Try.prog w = .ok true w := by
    obtain ⟨d, hd, hm⟩ := H.hu
    unfold isAgg
    rw [Sem.run_bind, run_underlying hd w]
    revert hm
    cases d <;> simp [go_sem]
  have e : A.extract off (off + E.size) = cs := by
    apply Array.ext_getElem?
    intro k
    rw [Array.getElem?_extract]
    split
    · rename_i hk
      exact hA k (by omega)
    · rename_i hk
      rw [Array.getElem?_eq_none (by omega)]
  simp [part, hagg, sizeOf, typeInfo, hq, hz, Sem.run_bind, e]
theorem eqH16_in (d : Nat) (A B : List Int) (hA : A.length = 13) (hB : B.length = 13) (w : World) : (Op.equalIn (d + 2) 23 (.agg (hv A)) (.agg (hv B))).run Try.prog w = .ok (A == B) w := by
  have z5 : (sizeOf 5).run Try.prog w = .ok 1 w := by kernel_rfl
  rw [show d + 2 = (d + 1) + 1 from rfl, Op.equalIn]
  simp only [Sem.run_bind, run_underlying Try.underlying23, Result.andThen_ok, z5]
  simp only [Std.Legacy.Range.forIn_eq_forIn_range', Std.Legacy.Range.size, Nat.sub_zero, Nat.add_sub_cancel, Nat.div_one]
  rw [← all_eq A B hA hB]
  exact loopN d A B hA hB w _ rfl rfl (List.range' 0 13) (fun i hi => by simp at hi; omega)
theorem eqC16_in (V M V' M' : List Int) (hV : V.length = 13) (hM : M.length = 13) (hV' : V'.length = 13) (hM' : M'.length = 13) (w : World) :
    (Op.equalIn 9999 25 (.agg (cv V M)) (.agg (cv V' M'))).run Try.prog w = .ok (V == V' && M == M') w := by
  rw [show (9999 : Nat) = 9998 + 1 from rfl, run_equalIn_struct w 9998 25 _ _ (by kernel_rfl) (by kernel_rfl)]
  rw [show (Try.prog.fieldsOf 25).toList = [{ name := "Value", type := 23, offset := 0, embedded := false, tag := "", pkgPath := "", byteOffset := 0 }, { name := "Mask", type := 23, offset := 13, embedded := false, tag := "", pkgPath := "", byteOffset := 13 }] from by kernel_rfl]
  simp only [Op.eqFields, ne_eq, String.reduceEq, not_false_eq_true, if_true, Sem.run_bind]
  simp only [part_val V M hV, part_val V' M' hV', Result.andThen_ok, eqH16_in 9996 V V' hV hV']
  cases hA : (V == V')
  · simp
  · simp only [Bool.not_true, Bool.false_eq_true, if_false, Sem.run_bind, part_mask V M hV hM, part_mask V' M' hV' hM', Result.andThen_ok, eqH16_in 9996 M M' hM hM']
    cases hB : (M == M') <;> simp
def eqB16 (m n : MsgM) : Bool := (m.kind == n.kind) && ((numM m 0 == numM n 0) && ((numM m 1 == numM n 1) && ((numM m 2 == numM n 2) && ((numM m 3 == numM n 3) && ((numM m 4 == numM n 4) && ((numM m 5 == numM n 5) && ((numM m 6 == numM n 6) && ((numM m 7 == numM n 7) && ((numM m 8 == numM n 8) && ((numM m 9 == numM n 9) && ((numM m 10 == numM n 10) && ((numM m 11 == numM n 11) && ((numM m 12 == numM n 12) && ((m.cube.1 == n.cube.1 && m.cube.2 == n.cube.2) && ((m.head == n.head) && true)))))))))))))))
set_option maxRecDepth 100000 in
theorem eqM16 {m n : MsgM} (h : okM m) (h' : okM n) (w : World) : (Op.equalIn 10000 27 (.agg (msA m)) (.agg (msA n))).run Try.prog w = .ok (eqB16 m n) w := by
  have a3 : (isAgg 3).run Try.prog w = .ok false w := by kernel_rfl
  rw [run_equalIn_struct w 9999 27 _ _ Try.underlying27 (by kernel_rfl)]
  simp only [Program.fieldsOf, Try.underlying27]
  refine eqFields_step w (by decide) (part_cell w a3 (ms_kind m)) (part_cell w a3 (ms_kind n)) (run_equalIn_int w _ 3 .i64 .i64 _ _ Try.underlying3) ?_
  refine eqFields_step w (by decide) (part_cell w a3 (ms_num h 0 (by decide))) (part_cell w a3 (ms_num h' 0 (by decide))) (run_equalIn_int w _ 3 .i64 .i64 _ _ Try.underlying3) ?_
  refine eqFields_step w (by decide) (part_cell w a3 (ms_num h 1 (by decide))) (part_cell w a3 (ms_num h' 1 (by decide))) (run_equalIn_int w _ 3 .i64 .i64 _ _ Try.underlying3) ?_
  refine eqFields_step w (by decide) (part_cell w a3 (ms_num h 2 (by decide))) (part_cell w a3 (ms_num h' 2 (by decide))) (run_equalIn_int w _ 3 .i64 .i64 _ _ Try.underlying3) ?_
  refine eqFields_step w (by decide) (part_cell w a3 (ms_num h 3 (by decide))) (part_cell w a3 (ms_num h' 3 (by decide))) (run_equalIn_int w _ 3 .i64 .i64 _ _ Try.underlying3) ?_
  refine eqFields_step w (by decide) (part_cell w a3 (ms_num h 4 (by decide))) (part_cell w a3 (ms_num h' 4 (by decide))) (run_equalIn_int w _ 3 .i64 .i64 _ _ Try.underlying3) ?_
  refine eqFields_step w (by decide) (part_cell w a3 (ms_num h 5 (by decide))) (part_cell w a3 (ms_num h' 5 (by decide))) (run_equalIn_int w _ 3 .i64 .i64 _ _ Try.underlying3) ?_
  refine eqFields_step w (by decide) (part_cell w a3 (ms_num h 6 (by decide))) (part_cell w a3 (ms_num h' 6 (by decide))) (run_equalIn_int w _ 3 .i64 .i64 _ _ Try.underlying3) ?_
  refine eqFields_step w (by decide) (part_cell w a3 (ms_num h 7 (by decide))) (part_cell w a3 (ms_num h' 7 (by decide))) (run_equalIn_int w _ 3 .i64 .i64 _ _ Try.underlying3) ?_
  refine eqFields_step w (by decide) (part_cell w a3 (ms_num h 8 (by decide))) (part_cell w a3 (ms_num h' 8 (by decide))) (run_equalIn_int w _ 3 .i64 .i64 _ _ Try.underlying3) ?_
  refine eqFields_step w (by decide) (part_cell w a3 (ms_num h 9 (by decide))) (part_cell w a3 (ms_num h' 9 (by decide))) (run_equalIn_int w _ 3 .i64 .i64 _ _ Try.underlying3) ?_
  refine eqFields_step w (by decide) (part_cell w a3 (ms_num h 10 (by decide))) (part_cell w a3 (ms_num h' 10 (by decide))) (run_equalIn_int w _ 3 .i64 .i64 _ _ Try.underlying3) ?_
  refine eqFields_step w (by decide) (part_cell w a3 (ms_num h 11 (by decide))) (part_cell w a3 (ms_num h' 11 (by decide))) (run_equalIn_int w _ 3 .i64 .i64 _ _ Try.underlying3) ?_
  refine eqFields_step w (by decide) (part_cell w a3 (ms_num h 12 (by decide))) (part_cell w a3 (ms_num h' 12 (by decide))) (run_equalIn_int w _ 3 .i64 .i64 _ _ Try.underlying3) ?_
  refine eqFields_step w (by decide) (part_ms CuGOk _ (cv m.cube.1 m.cube.2) 14 (cv_size _ _ h.2.1.1 h.2.2.1.1) (ms_cube h) (by rw [msA_size h]; decide) w) (part_ms CuGOk _ (cv n.cube.1 n.cube.2) 14 (cv_size _ _ h'.2.1.1 h'.2.2.1.1) (ms_cube h') (by rw [msA_size h']; decide) w) (eqC16_in _ _ _ _ h.2.1.1 h.2.2.1.1 h'.2.1.1 h'.2.2.1.1 w) ?_
  refine eqFields_step w (by decide) (part_ms HeOk _ (hv m.head) 40 (by rw [hv_size, h.2.2.2.1]; rfl) (ms_head h) (by rw [msA_size h]; decide) w) (part_ms HeOk _ (hv n.head) 40 (by rw [hv_size, h'.2.2.2.1]; rfl) (ms_head h') (by rw [msA_size h']; decide) w) (eqH16_in 9997 _ _ h.2.2.2.1 h'.2.2.2.1 w) ?_
  rfl
theorem num_ext {m n : MsgM} (h : okM m) (h' : okM n) (hn : ∀ j, j < 13 → numM m j = numM n j) : m.num = n.num := by
  apply List.ext_getElem?
  intro j
  by_cases hj : j < 13
  · have h2 := hn j hj
    unfold numM at h2
    rw [List.getD_eq_getElem?_getD, List.getD_eq_getElem?_getD, List.getElem?_eq_getElem (by rw [h.1]; exact hj), List.getElem?_eq_getElem (by rw [h'.1]; exact hj)] at h2
    rw [List.getElem?_eq_getElem (by rw [h.1]; exact hj), List.getElem?_eq_getElem (by rw [h'.1]; exact hj)]
    exact congrArg some h2
  · rw [List.getElem?_eq_none (by rw [h.1]; omega), List.getElem?_eq_none (by rw [h'.1]; omega)]
theorem eqB16_iff {m n : MsgM} (h : okM m) (h' : okM n) : eqB16 m n = true ↔ m = n := by
  constructor
  · intro e
    unfold eqB16 at e
    simp only [Bool.and_eq_true, beq_iff_eq] at e
    obtain ⟨e0, f0, f1, f2, f3, f4, f5, f6, f7, f8, f9, f10, f11, f12, ⟨c1, c2⟩, c3, _⟩ := e
    have hn : m.num = n.num := num_ext h h' fun j hj => by
      match j, hj with
      | 0, _ => exact f0
      | 1, _ => exact f1
      | 2, _ => exact f2
      | 3, _ => exact f3
      | 4, _ => exact f4
      | 5, _ => exact f5
      | 6, _ => exact f6
      | 7, _ => exact f7
      | 8, _ => exact f8
      | 9, _ => exact f9
      | 10, _ => exact f10
      | 11, _ => exact f11
      | 12, _ => exact f12
      | j + 13, hj => omega
    obtain ⟨k, nm, ⟨a, b⟩, hd⟩ := m
    obtain ⟨k', nm', ⟨a', b'⟩, hd'⟩ := n
    dsimp only at e0 hn c1 c2 c3
    rw [e0, hn, c1, c2, c3]
  · rintro rfl
    unfold eqB16
    simp
end Go.Proofs.Ytjmbdoiibchokaa
namespace Go.Proofs.Ytjmbdoiibchokaa
open Go.ChangeShapes Go.WideShapes Go.ChangeAt Go.WideMaps Go.WideElems Go.RowKit
set_option maxRecDepth 20000

theorem take_one16 {cs : List Value} {i : Nat} {v : Value} (h : (cs.drop i).take 1 = [v]) : cs[i]? = some v := by
  have := congrArg List.head? h
  rw [List.head?_take, if_neg (by decide), List.head?_drop] at this
  simpa using this
theorem field_int16 {P : Program} {H : Type} {enc : TypeId × Value → H} {W : World} {base : Nat} {spare : Nat → Bool} {held : Bool} {n : Nat} {t : TypeId} {cs : List Value} {y : Option (DataW H × List MemPlace)} {i : Nat} {k : IntKind} (ht : P.underlying t = some (.int k)) (hc : P.cellsOf t = 1)
    (h : DataW.trod enc P W base spare held n t ((cs.drop i).take (P.cellsOf t)) = y) (hy : y.isSome = true) : ∃ z : Int, cs[i]? = some (.int k z) := by
  obtain ⟨y', rfl⟩ := Option.isSome_iff_exists.1 hy
  obtain ⟨z, h1, _, _⟩ := DataW.trod_int ht h
  rw [hc] at h1
  exact ⟨z, take_one16 h1⟩
theorem xs_some16 {α : Type} {xs : List α} {n i : Nat} (h : xs.length = n) (hi : i < n) : (xs[i]?).isSome = true := by
  rw [List.getElem?_eq_getElem (by omega)]; rfl
theorem cube_of16 {H : Type} {enc : TypeId × Value → H} {W : World} {base : Nat} {spare : Nat → Bool} {held : Bool} {fuel : Nat} {cs : List Value} {x : DataW H × List MemPlace} (hl : cs.length = 26)
    (h : DataW.trod enc Try.prog W base spare held fuel 25 cs = some x) : ∃ V M : List Int, cs = (V ++ M).map (Value.int .u8) ∧ Byt V ∧ Byt M := by
  have c13 : Try.prog.cellsOf 23 = 13 := by kernel_rfl
  obtain ⟨y0, y1, k, hy, _, t0, t1⟩ := trod_struct2 Try.underlying25 h
  rw [c13] at t0 t1
  obtain ⟨V, hV, bV⟩ := bytes_of (by simp; omega) t0
  obtain ⟨M, hM, bM⟩ := bytes_of (by simp; omega) t1
  refine ⟨V, M, ?_, bV, bM⟩
  rw [List.map_append, ← hV, ← hM]
  simp only [List.drop_zero]
  rw [List.take_of_length_le (l := List.drop 13 cs) (by simp; omega), List.take_append_drop]
theorem msg_of16 {H : Type} {enc : TypeId × Value → H} {W : World} {base : Nat} {spare : Nat → Bool} {held : Bool} {fuel : Nat} {cs : List Value} {x : DataW H × List MemPlace} (hl : cs.length = 53)
    (h : DataW.trod enc Try.prog W base spare held fuel 27 cs = some x) : ∃ m : MsgM, cs = msL m ∧ okM m := by
  have c3 : Try.prog.cellsOf 3 = 1 := by kernel_rfl
  have c26 : Try.prog.cellsOf 25 = 26 := by kernel_rfl
  have c13 : Try.prog.cellsOf 23 = 13 := by kernel_rfl
  obtain ⟨xs, n, _, _, _, hxl, hf⟩ := DataW.trod_struct Try.underlying27 h
  obtain ⟨n0, h0⟩ := field_int16 Try.underlying3 c3 (hf 0 _ rfl) (xs_some16 hxl (by decide))
  obtain ⟨n1, h1⟩ := field_int16 Try.underlying3 c3 (hf 1 _ rfl) (xs_some16 hxl (by decide))
  obtain ⟨n2, h2⟩ := field_int16 Try.underlying3 c3 (hf 2 _ rfl) (xs_some16 hxl (by decide))
  obtain ⟨n3, h3⟩ := field_int16 Try.underlying3 c3 (hf 3 _ rfl) (xs_some16 hxl (by decide))
  obtain ⟨n4, h4⟩ := field_int16 Try.underlying3 c3 (hf 4 _ rfl) (xs_some16 hxl (by decide))
  obtain ⟨n5, h5⟩ := field_int16 Try.underlying3 c3 (hf 5 _ rfl) (xs_some16 hxl (by decide))
  obtain ⟨n6, h6⟩ := field_int16 Try.underlying3 c3 (hf 6 _ rfl) (xs_some16 hxl (by decide))
  obtain ⟨n7, h7⟩ := field_int16 Try.underlying3 c3 (hf 7 _ rfl) (xs_some16 hxl (by decide))
  obtain ⟨n8, h8⟩ := field_int16 Try.underlying3 c3 (hf 8 _ rfl) (xs_some16 hxl (by decide))
  obtain ⟨n9, h9⟩ := field_int16 Try.underlying3 c3 (hf 9 _ rfl) (xs_some16 hxl (by decide))
  obtain ⟨n10, h10⟩ := field_int16 Try.underlying3 c3 (hf 10 _ rfl) (xs_some16 hxl (by decide))
  obtain ⟨n11, h11⟩ := field_int16 Try.underlying3 c3 (hf 11 _ rfl) (xs_some16 hxl (by decide))
  obtain ⟨n12, h12⟩ := field_int16 Try.underlying3 c3 (hf 12 _ rfl) (xs_some16 hxl (by decide))
  obtain ⟨n13, h13⟩ := field_int16 Try.underlying3 c3 (hf 13 _ rfl) (xs_some16 hxl (by decide))
  have h14 : DataW.trod enc Try.prog W base spare held n 25 ((cs.drop 14).take (Try.prog.cellsOf 25)) = xs[14]? := hf 14 _ rfl
  obtain ⟨y, hy⟩ := Option.isSome_iff_exists.1 (xs_some16 hxl (show 14 < 16 by decide))
  rw [hy, c26] at h14
  obtain ⟨V, M, hVM, bV, bM⟩ := cube_of16 (by simp; omega) h14
  have h15 : DataW.trod enc Try.prog W base spare held n 23 ((cs.drop 40).take (Try.prog.cellsOf 23)) = xs[15]? := hf 15 _ rfl
  obtain ⟨z, hz⟩ := Option.isSome_iff_exists.1 (xs_some16 hxl (show 15 < 16 by decide))
  rw [hz, c13] at h15
  obtain ⟨L, hL, bL⟩ := bytes_of (by simp; omega) h15
  refine ⟨⟨n0, [n1, n2, n3, n4, n5, n6, n7, n8, n9, n10, n11, n12, n13], (V, M), L⟩, ?_, rfl, bV, bM, bL⟩
  have e1 : cs.take 14 = [.int .i64 n0, .int .i64 n1, .int .i64 n2, .int .i64 n3, .int .i64 n4, .int .i64 n5, .int .i64 n6, .int .i64 n7, .int .i64 n8, .int .i64 n9, .int .i64 n10, .int .i64 n11, .int .i64 n12, .int .i64 n13] := by
    apply List.ext_getElem?
    intro k
    rcases (show k = 0 ∨ k = 1 ∨ k = 2 ∨ k = 3 ∨ k = 4 ∨ k = 5 ∨ k = 6 ∨ k = 7 ∨ k = 8 ∨ k = 9 ∨ k = 10 ∨ k = 11 ∨ k = 12 ∨ k = 13 ∨ 14 ≤ k by omega) with rfl | rfl | rfl | rfl | rfl | rfl | rfl | rfl | rfl | rfl | rfl | rfl | rfl | rfl | hk
    · rw [List.getElem?_take_of_lt (by decide)]; exact h0
    · rw [List.getElem?_take_of_lt (by decide)]; exact h1
    · rw [List.getElem?_take_of_lt (by decide)]; exact h2
    · rw [List.getElem?_take_of_lt (by decide)]; exact h3
    · rw [List.getElem?_take_of_lt (by decide)]; exact h4
    · rw [List.getElem?_take_of_lt (by decide)]; exact h5
    · rw [List.getElem?_take_of_lt (by decide)]; exact h6
    · rw [List.getElem?_take_of_lt (by decide)]; exact h7
    · rw [List.getElem?_take_of_lt (by decide)]; exact h8
    · rw [List.getElem?_take_of_lt (by decide)]; exact h9
    · rw [List.getElem?_take_of_lt (by decide)]; exact h10
    · rw [List.getElem?_take_of_lt (by decide)]; exact h11
    · rw [List.getElem?_take_of_lt (by decide)]; exact h12
    · rw [List.getElem?_take_of_lt (by decide)]; exact h13
    · rw [List.getElem?_eq_none (by rw [List.length_take]; omega), List.getElem?_eq_none (by simpa using hk)]
  have e2 : cs = cs.take 14 ++ ((cs.drop 14).take 26 ++ (cs.drop 40).take 13) := by
    rw [List.take_of_length_le (l := cs.drop 40) (by simp; omega)]
    conv => lhs; rw [← List.take_append_drop 14 cs]
    congr 1
    conv => lhs; rw [← List.take_append_drop 26 (cs.drop 14)]
    rw [List.drop_drop]
  rw [e2, e1, hVM, hL]
  rfl
/-- A message that comes in. -/
theorem open_msg {H : Type} {enc : TypeId × Value → H} {W : World} {r : Reach} {b0 base : Nat} {spare : Nat → Bool} {held : Bool} {v : Value} {d : DataW H} {p : List MemPlace}
    (hok : Value.okWide Try.prog W r b0 27 v) (h : DataW.Trod enc Try.prog W base spare held 27 v d p) : ∃ m : MsgM, v = .agg (msA m) ∧ okM m := by
  have c53 : Try.prog.cellsOf 27 = 53 := by kernel_rfl
  simp only [Value.okWide, Try.underlying27] at hok
  obtain ⟨cs, rfl, hsz, _⟩ := hok
  rw [c53] at hsz
  obtain ⟨fuel, hf⟩ := h
  simp only [Value.cells] at hf
  obtain ⟨m, hr, hm⟩ := msg_of16 (by simpa using hsz) hf
  refine ⟨m, ?_, hm⟩
  congr 1
  exact Array.ext' hr
end Go.Proofs.Ytjmbdoiibchokaa
