import Derived.Test.YtgcfdcgmddjhbaaDoorPrBuf
import Derived.Test.YtgcfdcgmddjhbaaDoorRawsAt
namespace Go.Proofs.YtgcfdcgmddjhbaaDoor
open Go Go.RowKit
set_option maxRecDepth 20000

theorem pt_size {B : Nat} {w w' : World} {v : Value} {bs : List UInt8} (h : Pt B w w' v bs) (hB : B ≤ w.heap.size) : B ≤ w'.heap.size := Nat.le_trans hB h.below.size
theorem numsTo_mono (c : Cla) (j : Nat) : ∀ k, (numsTo c j).length ≤ (numsTo c (j + k)).length
  | 0 => Nat.le_refl _
  | k + 1 => by
    have := numsTo_mono c j k
    rw [show j + (k + 1) = (j + k) + 1 from rfl, numsTo, List.length_append]
    omega
theorem pt_other {B : Nat} {w w' w'' : World} {v : Value} {bs : List UInt8} (h : Pt B w w' v bs) (hB : B ≤ w'.heap.size) (hb : Below w'.heap.size w' w'') : Pt B w w'' v bs :=
  ⟨gown_below h.buf hb, h.below.trans (hb.mono hB), fun k o hk hq ho => by
    have h1 := h.kept k o hk hq ho
    exact (hb.block k (Array.getElem?_eq_some_iff.1 h1).1).trans h1⟩
set_option maxHeartbeats 8000000 in
theorem printClause_any (B : Nat) (W0 : World) (hW0 : B = W0.heap.size) (c : Cla) (u : Value) (hu : FigsAt W0 c u) (hok : ∀ f ∈ c.nums, okN f.n) (v : Value) (bs : List UInt8) (w : World) (h0 : Below B W0 w) (hb : Buf B w v bs) (hn : bs.length + (claP c).length ≤ 900000) (hnl : c.nums.length ≤ 900000) (htab : Lib.TabBelow Tryd.prog B w "internal/strconv.uint64pow10" .u64 Lib.pow10Tab) :
    Calls Tryd.prog 14 #[v, .agg (claV c u)] w fun e w' => ∃ v', e = .returned v' ∧ Pt B w w' v' (bs ++ claP c) := by
  have CP : Hid (∀ (f : Fig) v bs W, okN f.n → Buf B W v bs → B ≤ W.heap.size → bs.length ≤ 1000000 → Lib.TabBelow Tryd.prog B W "internal/strconv.uint64pow10" .u64 Lib.pow10Tab → Calls Tryd.prog 13 #[v, .agg (figV f)] W fun e w' => ∃ v', e = .returned v' ∧ Pt B W w' v' (bs ++ decI f.n)) := fun f v bs W hf hb hB hn ht => printFigure_any B f hf v bs W hb hB hn ht
  have hB : B ≤ w.heap.size := by rw [hW0]; exact h0.size
  obtain ⟨o, cap, rfl, hc1, hc2⟩ := GSl.slice hu
  have CB : Hid (∀ j W, Calls Tryd.prog 21 #[.agg (claV c (.slice o c.nums.length cap)), .int .i64 ((j : Nat) : Int)] W fun e w' => e = .returned (.int .u8 ((signJ c j).toNat : Int)) ∧ Below W.heap.size W w' ∧ Lib.OthersKept 5 none W w') := fun j W => between_any c _ ⟨o, cap, rfl⟩ j (by omega) W
  obtain ⟨n, hnn⟩ : ∃ n, n = c.nums.length := ⟨_, rfl⟩
  have HN : Hid (n = c.nums.length) := hnn
  rw [← hnn] at hu hc1 hnl CB ⊢
  unfold maxLen at hc2
  have HU : Hid (GSl FigE figV W0 (.slice o n cap) c.nums) := hu
  have HOK : Hid (∀ f ∈ c.nums, okN f.n) := hok
  have HCP : Hid (claP c = [32] ++ c.word ++ [32] ++ numsTo c n) := by
    show _ = _
    rw [hnn, numsTo_all]
    unfold claP
    simp
  have HLEN : Hid (∀ j, j ≤ n → (numsTo c j).length ≤ 21 * j) := fun j _ => numsTo_len c hok j
  have hwl : bs.length + c.word.length + 2 ≤ 900000 := by rw [HCP.out] at hn; simp at hn; omega
  have hnl2 : Hid (bs.length + c.word.length + 2 + (numsTo c n).length ≤ 900000) := by show _ ≤ _; rw [HCP.out] at hn; simp at hn; omega
  have n0 := heap_new w (.cells (claV c (.slice o n cap)) 31) _ rfl
  have PA : Pt B w (w.alloc (.cells (claV c (.slice o n cap)) 31)) v bs := (Pt.start hb).alloc hB _
  obtain ⟨wA, hwA⟩ : ∃ wA, wA = w.alloc (.cells (claV c (.slice o n cap)) 31) := ⟨_, rfl⟩
  rw [← hwA] at n0 PA
  have HA : Hid (wA = w.alloc (.cells (claV c (.slice o n cap)) 31)) := hwA
  have HPA : Hid (Pt B w wA v bs) := PA
  have HN0 : Hid (wA.heap[w.heap.size]? = some (.cells (claV c (.slice o n cap)) 31 (0, 0))) := n0
  have H0 : Hid (Below B W0 w) := h0
  have HT : Hid (Lib.TabBelow Tryd.prog B w "internal/strconv.uint64pow10" .u64 Lib.pow10Tab) := htab
  have zA : B ≤ wA.heap.size := Nat.le_trans hB PA.below.size
  clear n0 PA hwA h0 htab hu hok hb hnn
  go_enter Tryd.func14, Tryd.ntmps14
  go_wp2_with (first | (at_builtin; refine of_stopT ?_))
  unfold StopT
  rw [← HA.out]
  refine wl_appB rfl _ _ rfl B v bs rfl ((HPA.out.alloc zA _).buf) (w.heap.size + 1) 32 rfl (heap_new _ _ _ (by rw [HA.out]; simp)) (by omega) (by simp; omega) ?_
  intro v1 w1 P1
  have HP1 : Hid (Pt B wA w1 v1 (bs ++ [32])) := ((Pt.start HPA.out.buf).alloc zA _).trans P1
  clear P1
  simp only [Act.put, List.setIfInBounds_toArray, List.set_cons_succ, List.set_cons_zero]
  have c0 : w1.cell? ⟨w.heap.size, 0, none⟩ = some (.string ⟨c.word.toArray⟩) := by rw [cell_of_row _ _ _ _ _ _ (kept_row HP1.out.kept HN0.out (by decide))]; rfl
  have z1 : B ≤ w1.heap.size := pt_size HP1.out zA
  have hwz : (⟨c.word.toArray⟩ : ByteArray).size = c.word.length := by rw [Lib.size_eq]
  have HWZ : Hid ((⟨c.word.toArray⟩ : ByteArray).size = c.word.length) := hwz
  clear hwz
  go_wp2_with (first | (at_builtin; refine of_stopT ?_))
  unfold StopT
  refine wl_appS rfl _ _ rfl B v1 _ rfl HP1.out.buf ⟨c.word.toArray⟩ rfl (by rw [HWZ.out]; simp; omega) z1 ?_
  intro v2 w2 P2
  have HP2 : Hid (Pt B wA w2 v2 (bs ++ [32] ++ c.word)) := HP1.out.trans P2
  have z2 : B ≤ w2.heap.size := pt_size HP2.out zA
  clear P2 c0 z1
  simp only [Act.put, List.setIfInBounds_toArray, List.set_cons_succ, List.set_cons_zero]
  go_wp2_with (first | (at_builtin; refine of_stopT ?_))
  unfold StopT
  refine wl_appB rfl _ _ rfl B v2 _ rfl ((HP2.out.alloc z2 _).buf) w2.heap.size 32 rfl (heap_new _ _ _ rfl) (by simp; omega) (by simp; omega) ?_
  intro v3 w3 P3
  have HP3 : Hid (Pt B wA w3 v3 (bs ++ [32] ++ c.word ++ [32])) := (HP2.out.alloc z2 _).trans P3
  clear P3 z2
  simp only [Act.put, List.setIfInBounds_toArray, List.set_cons_succ, List.set_cons_zero]
  have c2 : w3.cell? ⟨w.heap.size, 2, none⟩ = some (.slice o n cap) := by rw [cell_of_row _ _ _ _ _ _ (kept_row HP3.out.kept HN0.out (by decide))]; rfl
  go_wp2_with fail
  clear c2
  go_loopw [0, 20] (fun b x wr => ∃ j : Nat, j ≤ n ∧ x = .int .i64 (j : Int) ∧ Pt B wA wr b (bs ++ [32] ++ c.word ++ [32] ++ numsTo c j)) (fun _ x _ => n - (intOf x).toNat)
  case atStart => exact ⟨0, Nat.zero_le _, rfl, by have := HP3.out; simpa [numsTo] using this⟩
  case round =>
    obtain ⟨j, hj, rfl, PJ⟩ := hrel
    have HPJ : Hid (Pt B wA wr u0 (bs ++ [32] ++ c.word ++ [32] ++ numsTo c j)) := PJ
    have zj : B ≤ wr.heap.size := pt_size PJ zA
    have hlj := HLEN.out j hj
    clear PJ
    by_cases hlt : j < n
    · have B0 : Below B W0 wr := H0.out.trans (HPA.out.below.trans HPJ.out.below)
      obtain ⟨g, off, cur, ty, fr, f, rfl, hg, hc, hcj⟩ := (HU.out.below (hW0 ▸ B0)).at j hlt
      have hf : okN f.n := HOK.out f (List.mem_of_getElem? hcj)
      have HF : Hid (okN f.n) := hf
      have HNJ : Hid (numsTo c (j + 1) = numsTo c j ++ ((if j = 0 then [] else [signJ c j]) ++ decI f.n)) := by show _ = _; rw [numsTo]; unfold numJ; rw [hcj]
      have K1 : Hid (wr.heap[g]? = some (.cells cur ty fr)) := hg
      have H1 : Hid (∀ q, q < 2 → cur[off + j * 2 + q]? = (figV f)[q]?) := hc
      have hlt' : (j : Int) < (n : Int) := by omega
      have HAL : Hid (Pt B wA (wr.alloc (.cells (figV f) 25)) u0 (bs ++ [32] ++ c.word ++ [32] ++ numsTo c j)) := HPJ.out.alloc zj _
      have zj2 : B ≤ (wr.alloc (.cells (figV f) 25)).heap.size := by simp; omega
      have hbound : Hid ((bs ++ [32] ++ c.word ++ [32] ++ numsTo c j).length ≤ 950000) := by
        show _ ≤ _
        have h1 := numsTo_mono c j (n - j)
        rw [show j + (n - j) = n by omega] at h1
        have h2 := hnl2.out
        simp only [List.length_append, List.length_cons, List.length_nil]
        omega
      clear hg hc hcj hf B0
      have KF : Hid ((wr.alloc (.cells (figV f) 25)).heap[wr.heap.size]? = some (.cells (figV f) 25 (0, 0))) := heap_new _ _ _ rfl
      by_cases hj0 : j = 0
      · have hg0 : ¬ (j : Int) > 0 := by omega
        rw [if_pos hj0, List.nil_append] at HNJ
        clear hj0
        go_wp2_with (first
          | (refine wl_loadE (E := FigE) FigOk rfl _ rfl g (off + j * 2) rfl cur ty fr (figV f) rfl K1.out H1.out ?_)
          | (refine wl_storeE (E := FigE) FigOk rfl _ _ rfl wr.heap.size (figV f) (fig_fits _) rfl rfl _ (heap_new _ _ _ rfl) rfl _ (setRow_new _ _ _ _ _ rfl) ?_)
          | (refine wl_loadE (E := FigE) FigOk rfl _ rfl wr.heap.size 0 rfl _ _ _ (figV f) rfl KF.out (own_cells _ _) ?_))
        have HTB : Hid (Lib.TabBelow Tryd.prog B (wr.alloc (.cells (figV f) 25)) "internal/strconv.uint64pow10" .u64 Lib.pow10Tab) := HT.out.on (HPA.out.below.trans HAL.out.below)
        refine (CP.out f _ _ _ HF.out HAL.out.buf zj2 (by have := hbound.out; omega) HTB.out).mono ?_
        rintro e w6 ⟨v6, rfl, P6⟩
        have HP6 : Hid (Pt B wA w6 v6 (bs ++ [32] ++ c.word ++ [32] ++ numsTo c (j + 1))) := by
          have := HAL.out.trans P6
          show Pt _ _ _ _ _
          rw [HNJ.out, ← List.append_assoc]
          exact this
        clear P6
        go_wp2_with fail
        go_roundw
        case rel => exact ⟨j + 1, by omega, by go_num, HP6.out⟩
        case measure => simp [intOf]; omega
      · have hg0 : (j : Int) > 0 := by omega
        rw [if_neg hj0] at HNJ
        have KC : Hid ((wr.alloc (.cells (figV f) 25)).heap[w.heap.size]? = some (.cells (claV c (.slice (some ⟨g, off, none⟩) n cap)) 31 (0, 0))) := kept_row HAL.out.kept HN0.out (by decide)
        clear hj0
        go_wp2_with (first
          | (refine wl_loadE (E := FigE) FigOk rfl _ rfl g (off + j * 2) rfl cur ty fr (figV f) rfl K1.out H1.out ?_)
          | (refine wl_storeE (E := FigE) FigOk rfl _ _ rfl wr.heap.size (figV f) (fig_fits _) rfl rfl _ (heap_new _ _ _ rfl) rfl _ (setRow_new _ _ _ _ _ rfl) ?_)
          | (refine wl_loadE (E := ClaE) ClaOk rfl _ rfl w.heap.size 0 rfl _ _ _ (claV c (.slice (some ⟨g, off, none⟩) n cap)) rfl KC.out (own_cells _ _) ?_))
        refine (CB.out j _).mono ?_
        rintro e w4 ⟨rfl, hb4, hk4⟩
        have HP4 : Hid (Pt B wA w4 u0 (bs ++ [32] ++ c.word ++ [32] ++ numsTo c j)) := pt_other HAL.out zj2 hb4
        have KF4 : Hid (w4.heap[wr.heap.size]? = some (.cells (figV f) 25 (0, 0))) := (hb4.block _ (by simp)).trans KF.out
        have z4 : B ≤ w4.heap.size := pt_size HP4.out zA
        clear hb4 hk4
        go_wp2_with (first | (at_builtin; refine of_stopT ?_))
        unfold StopT
        refine wl_appB rfl _ _ rfl B u0 _ rfl ((HP4.out.alloc z4 _).buf) w4.heap.size (signJ c j) rfl (heap_new _ _ _ rfl) (by have := hbound.out; omega) (by simp; omega) ?_
        intro v5 w5 P5
        have HP5 : Hid (Pt B wA w5 v5 (bs ++ [32] ++ c.word ++ [32] ++ numsTo c j ++ [signJ c j])) := (HP4.out.alloc z4 _).trans P5
        have KF5 : Hid (w5.heap[wr.heap.size]? = some (.cells (figV f) 25 (0, 0))) := kept_row P5.kept (heap_past _ _ _ _ KF4.out) (by decide)
        have z5 : B ≤ w5.heap.size := pt_size HP5.out zA
        clear P5 z4
        simp only [Act.put, List.setIfInBounds_toArray, List.set_cons_succ, List.set_cons_zero]
        go_wp2_with (first
          | (refine wl_loadE (E := FigE) FigOk rfl _ rfl wr.heap.size 0 rfl _ _ _ (figV f) rfl KF5.out (own_cells _ _) ?_))
        have HTB : Hid (Lib.TabBelow Tryd.prog B w5 "internal/strconv.uint64pow10" .u64 Lib.pow10Tab) := HT.out.on (HPA.out.below.trans HP5.out.below)
        refine (CP.out f _ _ _ HF.out HP5.out.buf z5 (by have := hbound.out; simp only [List.length_append, List.length_cons, List.length_nil] at this ⊢; omega) HTB.out).mono ?_
        rintro e w6 ⟨v6, rfl, P6⟩
        have HP6 : Hid (Pt B wA w6 v6 (bs ++ [32] ++ c.word ++ [32] ++ numsTo c (j + 1))) := by
          have := HP5.out.trans P6
          show Pt _ _ _ _ _
          rw [HNJ.out, ← List.append_assoc, ← List.append_assoc]
          exact this
        clear P6
        go_wp2_with fail
        go_roundw
        case rel => exact ⟨j + 1, by omega, by go_num, HP6.out⟩
        case measure => simp [intOf]; omega
    · have hlt' : (n : Int) ≤ (j : Int) := by omega
      obtain rfl : j = n := by omega
      clear hlt
      go_wp2_with fail
      go_ret
      refine ⟨_, rfl, ?_⟩
      rw [HCP.out]
      have := HPA.out.trans HPJ.out
      simpa [List.append_assoc] using this
end Go.Proofs.YtgcfdcgmddjhbaaDoor
