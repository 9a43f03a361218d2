import Derived.Test.YthekoeinnillpabMinus
namespace Go.Proofs.Ythekoeinnillpab
open Go Go.RowKit

/-- A cube that lies within a block, from a place on. -/
theorem load_cube (w : World) (g off : Nat) (cs : Array Value) (t : TypeId) (fr : Nat × Nat) (V M : List Int) (hV : V.length = 13) (hM : M.length = 13) (hg : w.heap[g]? = some (.cells cs t fr)) (hc : ∀ j, j < 26 → cs[off + j]? = (cv V M)[j]?) :
    (loadVar 25 ⟨g, off, none⟩).run Try.prog w = .ok (.agg (cv V M)) w := by
  have hsz := cv_size V M hV hM
  have hl : (loadCells ⟨g, off, none⟩ (cv V M).toList.length).run Try.prog w = .ok (cv V M).toList.toArray w :=
    run_loadCells_list (P := Try.prog) w ⟨g, off, none⟩ (cv V M).toList (fun j v hv => by
      have hadd : (⟨g, off, none⟩ : Addr).add j = ⟨g, off + j, none⟩ := by unfold Addr.add; split <;> simp_all
      have hj : j < 26 := by
        have := (List.getElem?_eq_some_iff.1 hv).1
        simpa [hsz] using this
      rw [hadd, cell_of_row w g (off + j) cs t fr hg, hc j hj]
      simpa using hv)
  obtain ⟨i, hq, _, hs, _⟩ := infoC
  have hagg : (isAgg 25).run Try.prog w = .ok true w := by
    unfold isAgg
    rw [Sem.run_bind, run_underlying Try.underlying25 w]
    rfl
  rw [Array.length_toList, hsz, Array.toArray_toList] at hl
  simp [loadVar, Sem.run_bind, hagg, sizeOf, typeInfo, hq, hs, hl]
theorem wl_loadCat {ops : Array Oper} {rest : List Oper} {o : Oper} {a : Act} {w : World} {Q : Exit → Act → World → Prop} (hw : Region.wanted o (yielded ops a.tmps) = true) (x : Operand) (ho : o.op = .load 25 x)
    (g off : Nat) (hx : a.eval x = .pointer (some ⟨g, off, none⟩)) (cs : Array Value) (t : TypeId) (fr : Nat × Nat) (V M : List Int) (hV : V.length = 13) (hM : M.length = 13) (hg : w.heap[g]? = some (.cells cs t fr)) (hc : ∀ j, j < 26 → cs[off + j]? = (cv V M)[j]?)
    (h : wpList Try.prog ops Q rest (a.put o.dst (.agg (cv V M))) w) : wpList Try.prog ops Q (o :: rest) a w := by
  refine wpList_step fun K hK => ?_
  rw [if_pos hw]
  unfold Oper.wp execOp
  simp only [ho, hx, Instr.loadAt, Instr.sureAddr, Sem.run_bind, Sem.run_pure, Result.andThen_ok, load_cube w g off cs t fr V M hV hM hg hc]
  exact hK _ _ h

def m128 : List Int := [128, 0, 0, 0, 0, 0, 0, 0, 0, 0, 0, 0, 0]
def m64 : List Int := [64, 0, 0, 0, 0, 0, 0, 0, 0, 0, 0, 0, 0]
def m192 : List Int := [192, 0, 0, 0, 0, 0, 0, 0, 0, 0, 0, 0, 0]
def m0 : List Int := [0, 0, 0, 0, 0, 0, 0, 0, 0, 0, 0, 0, 0]
theorem Z_m0 : Z = m0 := Z_eq
theorem byt_of (L : List Int) (h1 : L.length = 13) (h2 : ∀ x ∈ L, 0 ≤ x ∧ x < 256) : Byt L := by
  refine ⟨h1, fun k => ?_⟩
  rcases Nat.lt_or_ge k 13 with h | h
  · rw [List.getD, List.getElem?_eq_getElem (by omega)]; exact h2 _ (List.getElem_mem _)
  · rw [List.getD, List.getElem?_eq_none (by omega)]; decide
theorem b128 : Byt m128 := byt_of _ rfl (by decide)
theorem b64 : Byt m64 := byt_of _ rfl (by decide)
theorem b192 : Byt m192 := byt_of _ rfl (by decide)
theorem b0 : Byt m0 := byt_of _ rfl (by decide)

theorem ex1 : fixV m0 m0 0 false = m0 := by kernel_rfl
theorem ex2 : fixM m0 0 = m128 := by kernel_rfl
theorem ex3 : fixV m0 m0 1 true = m64 := by kernel_rfl
theorem ex4 : fixM m0 1 = m64 := by kernel_rfl
theorem ex5 : meets m0 m128 m64 m64 = true := by kernel_rfl
theorem ex6 : meetV m0 m128 m64 m64 = m64 := by kernel_rfl
theorem ex7 : meetM m128 m64 = m192 := by kernel_rfl
theorem ex8 : bt m128 0 = true := by kernel_rfl
theorem ex9 : meets m0 m0 m64 m192 = true := by kernel_rfl
theorem ex10 : meetV m0 m0 m64 m192 = m64 := by kernel_rfl
theorem ex11 : meetM m0 m192 = m192 := by kernel_rfl
theorem ex12 : can m0 m0 = m0 := by kernel_rfl
theorem ex13 : fixV m0 m0 0 true = m128 := by kernel_rfl
theorem ex14 : fixV m0 m128 1 false = m0 := by kernel_rfl
theorem ex15 : fixV m0 m128 1 true = m64 := by kernel_rfl
theorem ex16 : fixM m128 1 = m192 := by kernel_rfl
theorem ex17 : minusC m0 m0 m64 m192 = [(m128, m128), (m0, m192)] := by
  rw [minusC_yes _ _ _ _ ex9, ex10, ex11, ex12, mGo_cut _ _ _ _ _ _ (by kernel_rfl) (by kernel_rfl) (by kernel_rfl), show bt m64 0 = false by kernel_rfl, Bool.not_false, ex13, ex2, ex1, mGo_cut _ _ _ _ _ _ (by kernel_rfl) (by kernel_rfl) (by kernel_rfl), show bt m64 (0 + 1) = true by kernel_rfl, Bool.not_true, ex14, ex15, ex16, mGo_stop _ _ _ _ _ _ (by kernel_rfl)]
theorem ex18 : free m0 = 104 := by kernel_rfl
theorem ex19 : (txt m64 m192).take 3 = [48, 49, 42] := by kernel_rfl
theorem ex20 : (txt m0 m192).take 3 = [48, 48, 42] := by kernel_rfl
theorem txt_length (V M : List Int) : (txt V M).length = 104 := by simp [txt]

theorem all0 (w : World) : Calls Try.prog 16 #[] w fun e w' => e = .returned (.agg (cv m0 m0)) ∧ Below w.heap.size w w' := by
  have := all_any w; rwa [Z_m0] at this
theorem fixA (w : World) : Calls Try.prog 15 #[.agg (cv m0 m0), .int .i64 0, .bool false] w fun e w' => e = .returned (.tuple #[.agg (cv m0 m128), .int .i64 0]) ∧ Below w.heap.size w w' := by
  have := fix_in m0 m0 b0 b0 0 false (by decide) w; rwa [ex1, ex2] at this
theorem fixB (w : World) : Calls Try.prog 15 #[.agg (cv m0 m0), .int .i64 1, .bool true] w fun e w' => e = .returned (.tuple #[.agg (cv m64 m64), .int .i64 0]) ∧ Below w.heap.size w w' := by
  have := fix_in m0 m0 b0 b0 1 true (by decide) w; rwa [ex3, ex4] at this
theorem meetAB (w : World) : Calls Try.prog 17 #[.agg (cv m0 m128), .agg (cv m64 m64)] w fun e w' => e = .returned (.tuple #[.agg (cv m64 m192), .bool true]) ∧ Below w.heap.size w w' := by
  have := meet_any m0 m128 m64 m64 b0 b128 b64 b64 w; rwa [meetR_yes _ _ _ _ ex5, ex6, ex7] at this
theorem splitA (w : World) : Calls Try.prog 18 #[.agg (cv m0 m128), .int .i64 0] w fun e w' => e = .returned (.tuple #[.agg (cv m0 m0), .agg (cv m0 m0), .int .i64 3]) ∧ Below w.heap.size w w' := by
  have := split_fixed m0 m128 rfl b128 0 (by decide) ex8 w; rwa [Z_m0] at this
theorem minusA (w : World) : Calls Try.prog 6 #[.agg (cv m0 m0), .agg (cv m64 m192)] w fun e w' => ∃ (g cap : Nat) (cur : Array Value), e = .returned (.slice (some ⟨g, 0, none⟩) 2 cap) ∧ 2 ≤ cap ∧ cap ≤ maxLen ∧ w'.heap[g]? = some (.cells cur 25 (0, 0)) ∧ (∀ j, j < 26 → cur[26 + j]? = (cv m0 m192)[j]?) ∧ Below w.heap.size w w' := by
  refine (minus_any m0 m0 m64 m192 b0 b0 b64 b192 w).mono ?_
  rintro e w' ⟨v, rfl, hown, hb⟩
  rw [ex17] at hown
  obtain ⟨_, ⟨rfl, h0⟩ | ⟨g, cap, cur, rfl, hB, hcur, h1, h2, h3, h4⟩⟩ := hown
  · simp at h0
  refine ⟨g, cap, cur, rfl, h1, h2, hcur, fun j hj => ?_, hb⟩
  have h5 : (cur.toList.take 52)[26 + j]? = (ccells [(m128, m128), (m0, m192)])[26 + j]? := by rw [← h4]; rfl
  rw [List.getElem?_take_of_lt (by omega)] at h5
  rw [← Array.getElem?_toList, h5]
  simp only [ccells, List.flatMap_cons, List.flatMap_nil, List.append_nil]
  rw [List.getElem?_append_right (by rw [Array.length_toList, cv_size _ _ rfl rfl]; omega), Array.length_toList, cv_size _ _ rfl rfl, Nat.add_sub_cancel_left]
  simp
theorem textC (w : World) : Calls Try.prog 10 #[.agg (cv m64 m192)] w fun e w' => e = .returned (.string ⟨(txt m64 m192).toArray⟩) ∧ Below w.heap.size w w' := text_any _ _ b64 b192 w
theorem textL (w : World) : Calls Try.prog 10 #[.agg (cv m0 m192)] w fun e w' => e = .returned (.string ⟨(txt m0 m192).toArray⟩) ∧ Below w.heap.size w w' := text_any _ _ b0 b192 w
theorem freeA (w : World) : Calls Try.prog 19 #[.agg (cv m0 m0)] w fun e w' => e = .returned (.int .i64 104) ∧ Below w.heap.size w w' := by
  have := free_any m0 m0 rfl b0 w; rwa [ex18] at this

theorem take3 (T : List UInt8) : ((⟨T.toArray⟩ : ByteArray).extract 0 3).toList = T.take 3 := by
  rw [ByteArray.toList_eq, ByteArray.data_extract, Array.toList_extract]
  simp

set_option maxHeartbeats 4000000 in
theorem awake_any (w : World) : Calls Try.prog 5 #[] w fun e w' => e = .returned (.bool true) ∧ Below w.heap.size w w' := by
  have l0 : m0.length = 13 := rfl
  have l128 : m128.length = 13 := rfl
  have l64 : m64.length = 13 := rfl
  have l192 : m192.length = 13 := rfl
  go_enter Try.func5, Try.ntmps5
  go_wp2_with fail
  refine (all0 _).mono ?_
  rintro e w1 ⟨rfl, hb1⟩
  go_wp2_with fail
  refine (fixA _).mono ?_
  rintro e w2 ⟨rfl, hb2⟩
  have B2 := hb1.trans (hb2.mono hb1.size)
  clear hb1 hb2
  have g1 := heap_new w2 (.cells (cv m0 m128) 25) _ rfl
  have B3 := B2.alloc B2.size (.cells (cv m0 m128) 25)
  go_wp2_with (first
    | (refine wl_storeC rfl _ _ rfl w2.heap.size m0 m128 rfl rfl _ (heap_new _ _ _ rfl) rfl l0 l128 _ (setRow_new _ _ _ _ _ rfl) ?_))
  refine (all0 _).mono ?_
  rintro e w3 ⟨rfl, hb3⟩
  have B4 := B3.trans (hb3.mono B3.size)
  have g2 : w3.heap[w2.heap.size]? = some (.cells (cv m0 m128) 25 (0, 0)) := by rw [hb3.block _ (by simp)]; exact g1
  have z3 : w2.heap.size < w3.heap.size := Nat.lt_of_lt_of_le (by simp) hb3.size
  clear B2 B3 g1 hb3
  go_wp2_with fail
  refine (fixB _).mono ?_
  rintro e w4 ⟨rfl, hb4⟩
  have B5 := B4.trans (hb4.mono B4.size)
  have g3 : w4.heap[w2.heap.size]? = some (.cells (cv m0 m128) 25 (0, 0)) := by rw [hb4.block _ (by omega)]; exact g2
  have z4 : w2.heap.size < w4.heap.size := Nat.lt_of_lt_of_le z3 hb4.size
  clear B4 g2 hb4 z3
  have k3 := heap_past w4 (.cells (cv m64 m64) 25) _ _ g3
  have k4 := heap_new w4 (.cells (cv m64 m64) 25) _ rfl
  have B6 := B5.alloc B5.size (.cells (cv m64 m64) 25)
  go_wp2_with (first
    | (refine wl_storeC rfl _ _ rfl w4.heap.size m64 m64 rfl rfl _ (heap_new _ _ _ rfl) rfl l64 l64 _ (setRow_new _ _ _ _ _ rfl) ?_)
    | (refine wl_loadC rfl _ rfl w2.heap.size rfl m0 m128 k3 l0 l128 ?_)
    | (refine wl_loadC rfl _ rfl w4.heap.size rfl m64 m64 k4 l64 l64 ?_))
  refine (meetAB _).mono ?_
  rintro e w5 ⟨rfl, hb5⟩
  have B7 := B6.trans (hb5.mono B6.size)
  have g5 : w5.heap[w2.heap.size]? = some (.cells (cv m0 m128) 25 (0, 0)) := by rw [hb5.block _ (by simp; omega)]; exact k3
  have z5 : w2.heap.size < w5.heap.size := Nat.lt_of_lt_of_le (by simp; omega) hb5.size
  clear B5 B6 g3 k3 k4 hb5 z4
  have k5 := heap_past w5 (.cells (cv m64 m192) 25) _ _ g5
  have k6 := heap_new w5 (.cells (cv m64 m192) 25) _ rfl
  have B8 := B7.alloc B7.size (.cells (cv m64 m192) 25)
  go_wp2_with (first
    | (refine wl_storeC rfl _ _ rfl w5.heap.size m64 m192 rfl rfl _ (heap_new _ _ _ rfl) rfl l64 l192 _ (setRow_new _ _ _ _ _ rfl) ?_)
    | (refine wl_loadC rfl _ rfl w2.heap.size rfl m0 m128 k5 l0 l128 ?_))
  refine (splitA _).mono ?_
  rintro e w6 ⟨rfl, hb6⟩
  have B9 := B8.trans (hb6.mono B8.size)
  have g6 : w6.heap[w5.heap.size]? = some (.cells (cv m64 m192) 25 (0, 0)) := by rw [hb6.block _ (by simp)]; exact k6
  have z6 : w5.heap.size < w6.heap.size := Nat.lt_of_lt_of_le (by simp) hb6.size
  clear B7 B8 g5 k5 k6 hb6 z5
  have j6 := heap_past (w6.alloc (.cells (cv m0 m0) 25)) (.cells (cv m0 m0) 25) _ _ (heap_past w6 (.cells (cv m0 m0) 25) _ _ g6)
  have B10 := (B9.alloc B9.size (.cells (cv m0 m0) 25)).alloc (by simp; exact Nat.le_trans B9.size (by omega)) (.cells (cv m0 m0) 25)
  obtain ⟨W, hW⟩ : ∃ W, W = (w6.alloc (.cells (cv m0 m0) 25)).alloc (.cells (cv m0 m0) 25) := ⟨_, rfl⟩
  go_wp2_with (first
    | (refine wl_storeC rfl _ _ rfl w6.heap.size m0 m0 rfl rfl _ (heap_past _ _ _ _ (heap_new _ _ _ rfl)) rfl l0 l0 _ (by rw [setRow_past _ _ _ _ (by simp), setRow_new _ _ _ _ _ rfl]) ?_)
    | (refine wl_storeC rfl _ _ rfl (w6.heap.size + 1) m0 m0 rfl rfl _ (heap_new _ _ _ (by simp)) rfl l0 l0 _ (setRow_new _ _ _ _ _ (by simp)) ?_))
  rw [← hW] at j6 B10 ⊢
  clear hW B9 g6 z6
  have ne1 := Later.ne W
  refine wp_region_latertail 2 (by kernel_rfl) (by kernel_rfl) ?_
  simp only [List.take_succ_cons, List.take_zero, List.drop_succ_cons, List.drop_zero]
  go_big_quiet_want; go_big_quiet_op
  refine ⟨_, fun u => Calls.later_of (all0 u.world), ?_⟩
  go_big_quiet_on
  refine qlC rfl _ rfl w5.heap.size rfl m64 m192 j6 l64 l192 ?_
  simp only [Act.put, List.setIfInBounds_toArray, List.set_cons_succ, List.set_cons_zero]
  refine wpQuiet_nil ?_
  rintro w' ⟨u, rfl⟩
  obtain ⟨W1, hW1⟩ : ∃ W1, W1 = u.world := ⟨_, rfl⟩
  have i6 : W1.heap[w5.heap.size]? = some (.cells (cv m64 m192) 25 (0, 0)) := by rw [hW1]; exact later_block j6 _ ⟨u, rfl⟩
  have B11 : Below w.heap.size w W1 := by rw [hW1]; exact B10.trans (u.below.mono B10.size)
  rw [← hW1]
  clear hW1 j6 B10 ne1
  have z7 := (Array.getElem?_eq_some_iff.1 i6).1
  go_wp2_with fail
  refine (minusA _).mono ?_
  rintro e w7 ⟨g, cap, cur, rfl, hc2, hcM, hcur, hcells, hb7⟩
  have B12 := B11.trans (hb7.mono B11.size)
  have g7 : w7.heap[w5.heap.size]? = some (.cells (cv m64 m192) 25 (0, 0)) := by rw [hb7.block _ (by omega)]; exact i6
  have zg := (Array.getElem?_eq_some_iff.1 hcur).1
  have z8 := (Array.getElem?_eq_some_iff.1 g7).1
  have HCM : Hid (cap ≤ maxLen) := hcM
  have HCE : Hid (∀ j, j < 26 → cur[26 + j]? = (cv m0 m192)[j]?) := hcells
  clear hb7 i6 B11 z7 hcM hcells
  obtain ⟨T1, hT1⟩ : ∃ T, T = txt m64 m192 := ⟨_, rfl⟩
  obtain ⟨T2, hT2⟩ : ∃ T, T = txt m0 m192 := ⟨_, rfl⟩
  have t1l : T1.length = 104 := by rw [hT1]; exact txt_length _ _
  have t2l : T2.length = 104 := by rw [hT2]; exact txt_length _ _
  have CT1 : Hid (∀ W, Calls Try.prog 10 #[.agg (cv m64 m192)] W fun e w' => e = .returned (.string ⟨T1.toArray⟩) ∧ Below W.heap.size W w') := by rw [hT1]; exact textC
  have CT2 : Hid (∀ W, Calls Try.prog 10 #[.agg (cv m0 m192)] W fun e w' => e = .returned (.string ⟨T2.toArray⟩) ∧ Below W.heap.size W w') := by rw [hT2]; exact textL
  have HT1 : ((⟨T1.toArray⟩ : ByteArray).extract 0 3).toList = [48, 49, 42] := by rw [take3, hT1]; exact ex19
  have HT2 : ((⟨T2.toArray⟩ : ByteArray).extract 0 3).toList = [48, 48, 42] := by rw [take3, hT2]; exact ex20
  clear hT1 hT2
  go_wp2_with (first
    | (refine wl_loadCg rfl _ rfl w5.heap.size rfl m64 m192 g7 l64 l192 ?_))
  refine (CT1.out _).mono ?_
  rintro e w8 ⟨rfl, hb8⟩
  have B13 := B12.trans (hb8.mono B12.size)
  have g8 : w8.heap[w5.heap.size]? = some (.cells (cv m64 m192) 25 (0, 0)) := by rw [hb8.block _ (by omega)]; exact g7
  have c8 : w8.heap[g]? = some (.cells cur 25 (0, 0)) := by rw [hb8.block _ (by omega)]; exact hcur
  have zg8 := (Array.getElem?_eq_some_iff.1 c8).1
  have z9 := (Array.getElem?_eq_some_iff.1 g8).1
  clear B12 hb8 g7 hcur zg z8
  go_wp2_with (first
    | (refine wl_loadCat rfl _ rfl g 26 rfl cur _ _ m0 m192 l0 l192 c8 HCE.out ?_))
  refine (CT2.out _).mono ?_
  rintro e w9 ⟨rfl, hb9⟩
  have B14 := B13.trans (hb9.mono B13.size)
  have g9 : w9.heap[w5.heap.size]? = some (.cells (cv m64 m192) 25 (0, 0)) := by rw [hb9.block _ (by omega)]; exact g8
  have c9 : w9.heap[g]? = some (.cells cur 25 (0, 0)) := by rw [hb9.block _ (by omega)]; exact c8
  have zg9 := (Array.getElem?_eq_some_iff.1 c9).1
  have z10 := (Array.getElem?_eq_some_iff.1 g9).1
  clear B13 hb9 g8 c8 zg8 z9
  go_wp2_with (first
    | (refine wl_loadCg rfl _ rfl w5.heap.size rfl m64 m192 g9 l64 l192 ?_))
  refine (CT1.out _).mono ?_
  rintro e w10 ⟨rfl, hb10⟩
  have B15 := B14.trans (hb10.mono B14.size)
  have c10 : w10.heap[g]? = some (.cells cur 25 (0, 0)) := by rw [hb10.block _ (by omega)]; exact c9
  have zg10 := (Array.getElem?_eq_some_iff.1 c10).1
  clear B14 hb10 g9 c9 zg9 z10
  go_wp2_with (first
    | (refine wl_loadCat rfl _ rfl g 26 rfl cur _ _ m0 m192 l0 l192 c10 HCE.out ?_))
  refine (CT2.out _).mono ?_
  rintro e w11 ⟨rfl, hb11⟩
  have B16 := B15.trans (hb11.mono B15.size)
  clear B15 hb11 c10 zg10
  go_wp2_with fail
  refine (all0 _).mono ?_
  rintro e w12 ⟨rfl, hb12⟩
  have B17 := B16.trans (hb12.mono B16.size)
  clear B16 hb12
  go_wp2_with fail
  refine (freeA _).mono ?_
  rintro e w13 ⟨rfl, hb13⟩
  go_wp2_with fail
  go_ret
  exact ⟨rfl, B17.trans (hb13.mono B17.size)⟩
end Go.Proofs.Ythekoeinnillpab
