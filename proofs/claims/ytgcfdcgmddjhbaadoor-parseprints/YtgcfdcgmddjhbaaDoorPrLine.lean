import Derived.Test.YtgcfdcgmddjhbaaDoorPrClause
namespace Go.Proofs.YtgcfdcgmddjhbaaDoor
open Go Go.RowKit
set_option maxRecDepth 20000

theorem flat_take_le (l : List Cla) (k : Nat) : ((l.take k).flatMap claP).length ≤ (l.flatMap claP).length := by
  have h : l.flatMap claP = (l.take k).flatMap claP ++ (l.drop k).flatMap claP := by rw [← List.flatMap_append, List.take_append_drop]
  rw [h, List.length_append]
  omega
set_option maxHeartbeats 8000000 in
theorem printLine_any (B : Nat) (W0 : World) (hW0 : B = W0.heap.size) (x : Raw) (u : Value) (hu : ClasAt W0 x u) (hok : okNs x) (v : Value) (bs : List UInt8) (w : World) (h0 : Below B W0 w) (hb : Buf B w v bs) (hn : bs.length + (rowP x).length ≤ 800000) (hnl : ∀ c ∈ x.clauses, c.nums.length ≤ 900000) (htab : Lib.TabBelow Tryd.prog B w "internal/strconv.uint64pow10" .u64 Lib.pow10Tab) :
    Calls Tryd.prog 8 #[v, .agg (rawV x u)] w fun e w' => ∃ v', e = .returned v' ∧ Pt B w w' v' (bs ++ rowP x) := by
  have CP : Hid (∀ (f : Fig) v bs W, okN f.n → Buf B W v bs → B ≤ W.heap.size → bs.length ≤ 1000000 → Lib.TabBelow Tryd.prog B W "internal/strconv.uint64pow10" .u64 Lib.pow10Tab → Calls Tryd.prog 13 #[v, .agg (figV f)] W fun e w' => ∃ v', e = .returned v' ∧ Pt B W w' v' (bs ++ decI f.n)) := fun f v bs W hf hb hB hn ht => printFigure_any B f hf v bs W hb hB hn ht
  have CC : Hid (∀ (c : Cla) u v bs W, c ∈ x.clauses → FigsAt W0 c u → Below B W0 W → Buf B W v bs → bs.length + (claP c).length ≤ 900000 → Lib.TabBelow Tryd.prog B W "internal/strconv.uint64pow10" .u64 Lib.pow10Tab → Calls Tryd.prog 14 #[v, .agg (claV c u)] W fun e w' => ∃ v', e = .returned v' ∧ Pt B W w' v' (bs ++ claP c)) := fun c u v bs W hc hu h0 hb hn ht => printClause_any B W0 hW0 c u hu (hok.2.2 c hc) v bs W h0 hb hn (hnl c hc) ht
  have hB : B ≤ w.heap.size := by rw [hW0]; exact h0.size
  obtain ⟨o, cap, rfl, hc1, hc2⟩ := NSl.slice hu
  obtain ⟨n, hnn⟩ : ∃ n, n = x.clauses.length := ⟨_, rfl⟩
  have HN : Hid (n = x.clauses.length) := hnn
  rw [← hnn] at hu hc1 ⊢
  unfold maxLen at hc2
  have HU : Hid (NSl ClaE claV FigsAt W0 (.slice o n cap) x.clauses) := hu
  have HOK : Hid (okNs x) := hok
  have PA : Pt B w (w.alloc (.cells (rawV x (.slice o n cap)) 28)) v bs := (Pt.start hb).alloc hB _
  have n0 := heap_new w (.cells (rawV x (.slice o n cap)) 28) _ rfl
  obtain ⟨wA, hwA⟩ : ∃ wA, wA = w.alloc (.cells (rawV x (.slice o n cap)) 28) := ⟨_, rfl⟩
  rw [← hwA] at PA n0
  have HA : Hid (wA = w.alloc (.cells (rawV x (.slice o n cap)) 28)) := hwA
  have HPA : Hid (Pt B w wA v bs) := PA
  have HN0 : Hid (wA.heap[w.heap.size]? = some (.cells (rawV x (.slice o n cap)) 28 (0, 0))) := n0
  have H0 : Hid (Below B W0 w) := h0
  have HT : Hid (Lib.TabBelow Tryd.prog B w "internal/strconv.uint64pow10" .u64 Lib.pow10Tab) := htab
  have zA : B ≤ wA.heap.size := Nat.le_trans hB PA.below.size
  have q1 : (w.alloc (.cells (rawV x (.slice o n cap)) 28)).cell? ⟨w.heap.size, 1, none⟩ = some (.bool x.dflt) := by rw [← hwA, cell_of_row _ _ _ _ _ _ n0]; rfl
  have HROW : Hid (rowP x = (if x.dflt then wDefault else decI x.prio.n) ++ x.clauses.flatMap claP ++ ([32, 45, 62, 32] ++ (actP x ++ [10]))) := rfl
  have hlen : Hid (bs.length + (if x.dflt then wDefault else decI x.prio.n).length + (x.clauses.flatMap claP).length + (actP x).length + 5 ≤ 800000) := by
    show _ ≤ _
    rw [HROW.out] at hn
    simp only [List.length_append, List.length_cons, List.length_nil] at hn
    omega
  clear PA n0 hwA h0 htab hu hok hb hnn hn hnl
  by_cases hdf : x.dflt = true
  · have HFST : Hid ((if x.dflt then wDefault else decI x.prio.n) = wDefault) := if_pos hdf
    rw [hdf] at q1
    clear hdf
    go_enter Tryd.func8, Tryd.ntmps8
    go_wp2_with (first | (at_builtin; refine of_stopT ?_))
    unfold StopT
    rw [← HA.out]
    clear q1
    refine wl_appS rfl _ _ rfl B v _ rfl HPA.out.buf ⟨#[100, 101, 102, 97, 117, 108, 116]⟩ rfl (by have := hlen.out; show _ + 7 ≤ _; omega) zA ?_
    intro vh wh PH
    have HPH : Hid (Pt B wA wh vh (bs ++ wDefault)) := PH
    clear PH
    simp only [Act.put, List.setIfInBounds_toArray, List.set_cons_succ, List.set_cons_zero]
    have zh : B ≤ wh.heap.size := pt_size HPH.out zA
    have s4 : wh.cell? ⟨w.heap.size, 4, none⟩ = some (.slice o n cap) := by rw [cell_of_row _ _ _ _ _ _ (kept_row HPH.out.kept HN0.out (by decide))]; rfl
    go_wp2_with fail
    clear s4
    go_loopw [0, 18] (fun b i wr => ∃ k : Nat, k ≤ n ∧ i = .int .i64 (k : Int) ∧ Pt B wA wr b (bs ++ wDefault ++ (x.clauses.take k).flatMap claP)) (fun _ i _ => n - (intOf i).toNat)
    case atStart => exact ⟨0, Nat.zero_le _, rfl, by have := HPH.out; simpa using this⟩
    case round =>
      obtain ⟨k, hk, rfl, PJ⟩ := hrel
      have HPJ : Hid (Pt B wA wr u0 (bs ++ wDefault ++ (x.clauses.take k).flatMap claP)) := PJ
      have zj : B ≤ wr.heap.size := pt_size PJ zA
      clear PJ
      by_cases hlt : k < n
      · have B0 : Below B W0 wr := H0.out.trans (HPA.out.below.trans HPJ.out.below)
        obtain ⟨g, off, cur, ty, fr, c, u', rfl, hg, hc, hcj, hfig⟩ := NSl.at HU.out k hlt
        have hg' : wr.heap[g]? = some (.cells cur ty fr) := (B0.block g (by rw [hW0]; exact (Array.getElem?_eq_some_iff.1 hg).1)).trans hg
        obtain ⟨o', c', rfl, _, _⟩ := GSl.slice hfig
        have HFG : Hid (FigsAt W0 c (.slice o' c.nums.length c')) := hfig
        have HMC : Hid (c ∈ x.clauses) := List.mem_of_getElem? hcj
        have HTK : Hid ((x.clauses.take (k + 1)).flatMap claP = (x.clauses.take k).flatMap claP ++ claP c) := clas_take _ k c hcj
        have K1 : Hid (wr.heap[g]? = some (.cells cur ty fr)) := hg'
        have H1 : Hid (∀ q, q < 5 → cur[off + k * 5 + q]? = (claV c (.slice o' c.nums.length c'))[q]?) := hc
        have hlt' : (k : Int) < (n : Int) := by omega
        have HAL : Hid (Pt B wA (wr.alloc (.cells (claV c (.slice o' c.nums.length c')) 31)) u0 (bs ++ wDefault ++ (x.clauses.take k).flatMap claP)) := HPJ.out.alloc zj _
        have KF : Hid ((wr.alloc (.cells (claV c (.slice o' c.nums.length c')) 31)).heap[wr.heap.size]? = some (.cells (claV c (.slice o' c.nums.length c')) 31 (0, 0))) := heap_new _ _ _ rfl
        clear hg hg' hc hcj hfig B0
        go_wp2_with (first
          | (refine wl_loadE (E := ClaE) ClaOk rfl _ rfl g (off + k * 5) rfl cur ty fr (claV c (.slice o' c.nums.length c')) rfl K1.out H1.out ?_)
          | (refine wl_storeE (E := ClaE) ClaOk rfl _ _ rfl wr.heap.size (claV c (.slice o' c.nums.length c')) ⟨rfl, by simp [claV, Value.oneCell']⟩ rfl rfl _ (heap_new _ _ _ rfl) rfl _ (setRow_new _ _ _ _ _ rfl) ?_)
          | (refine wl_loadE (E := ClaE) ClaOk rfl _ rfl wr.heap.size 0 rfl _ _ _ (claV c (.slice o' c.nums.length c')) rfl KF.out (own_cells _ _) ?_))
        refine (CC.out c _ _ _ _ HMC.out HFG.out (H0.out.trans (HPA.out.below.trans HAL.out.below)) HAL.out.buf ?_ (HT.out.on (HPA.out.below.trans HAL.out.below))).mono ?_
        · have h1 := flat_take_le x.clauses (k + 1)
          rw [HTK.out] at h1
          have h2 := hlen.out
          rw [HFST.out] at h2
          simp only [List.length_append] at h1 h2 ⊢
          omega
        rintro e w6 ⟨v6, rfl, P6⟩
        have HP6 : Hid (Pt B wA w6 v6 (bs ++ wDefault ++ (x.clauses.take (k + 1)).flatMap claP)) := by
          have := HAL.out.trans P6
          show Pt _ _ _ _ _
          rw [HTK.out, ← List.append_assoc]
          exact this
        clear P6
        go_wp2_with fail
        go_roundw
        case rel => exact ⟨k + 1, by omega, by go_num, HP6.out⟩
        case measure => simp [intOf]; omega
      · have hlt' : (n : Int) ≤ (k : Int) := by omega
        have htk : x.clauses.take k = x.clauses := List.take_of_length_le (by have := HN.out; omega)
        rw [htk] at HPJ
        clear hlt htk
        go_wp2_with (first | (at_builtin; refine of_stopT ?_))
        unfold StopT
        refine wl_appS rfl _ _ rfl B u0 _ rfl HPJ.out.buf ⟨#[32, 45, 62, 32]⟩ rfl (by have := hlen.out; rw [HFST.out] at this; simp only [List.length_append] at this ⊢; show _ + 4 ≤ _; omega) zj ?_
        intro vs ws PS
        have HPS : Hid (Pt B wA ws vs (bs ++ wDefault ++ x.clauses.flatMap claP ++ [32, 45, 62, 32])) := HPJ.out.trans PS
        have zs : B ≤ ws.heap.size := pt_size HPS.out zA
        clear PS
        simp only [Act.put, List.setIfInBounds_toArray, List.set_cons_succ, List.set_cons_zero]
        by_cases hdr : x.drop = true
        · skip
          have HAC : Hid (actP x = wDrop) := by show _ = _; unfold actP; rw [if_pos hdr]
          have s5 : ws.cell? ⟨w.heap.size, 5, none⟩ = some (.bool true) := by rw [cell_of_row _ _ _ _ _ _ (kept_row HPS.out.kept HN0.out (by decide)), ← hdr]; rfl
          clear hdr
          go_wp2_with (first | (at_builtin; refine of_stopT ?_))
          unfold StopT
          refine wl_appS rfl _ _ rfl B vs _ rfl HPS.out.buf ⟨#[100, 114, 111, 112]⟩ rfl (by have := hlen.out; rw [HAC.out, HFST.out] at this; simp only [List.length_append, List.length_cons, List.length_nil] at this ⊢; show _ + 4 ≤ _; omega) zs ?_
          intro vt wt PT
          have HPT : Hid (Pt B wA wt vt (bs ++ wDefault ++ x.clauses.flatMap claP ++ [32, 45, 62, 32] ++ actP x)) := by have := HPS.out.trans PT; rw [HAC.out]; exact this
          clear PT s5
          simp only [Act.put, List.setIfInBounds_toArray, List.set_cons_succ, List.set_cons_zero]
          have zt : B ≤ wt.heap.size := pt_size HPT.out zA
          go_wp2_with (first | (at_builtin; refine of_stopT ?_))
          unfold StopT
          refine wl_appB rfl _ _ rfl B vt _ rfl ((HPT.out.alloc zt _).buf) wt.heap.size 10 rfl (heap_new _ _ _ rfl) (by have := hlen.out; simp only [List.length_append, List.length_cons, List.length_nil] at this ⊢; rw [HFST.out] at this; omega) (by simp; omega) ?_
          intro vz wz PZ
          have HPZ : Hid (Pt B wA wz vz (bs ++ wDefault ++ x.clauses.flatMap claP ++ [32, 45, 62, 32] ++ actP x ++ [10])) := (HPT.out.alloc zt _).trans PZ
          clear PZ
          simp only [Act.put, List.setIfInBounds_toArray, List.set_cons_succ, List.set_cons_zero]
          go_wp2_with fail
          go_ret
          refine ⟨_, rfl, ?_⟩
          rw [HROW.out, HFST.out]
          have := HPA.out.trans HPZ.out
          simpa [List.append_assoc] using this
        · skip
          have hdr' : x.drop = false := by simpa using hdr
          have HAC : Hid (actP x = wPort ++ (32 :: decI x.port.n)) := by show _ = _; unfold actP; rw [if_neg hdr]
          have s5 : ws.cell? ⟨w.heap.size, 5, none⟩ = some (.bool false) := by rw [cell_of_row _ _ _ _ _ _ (kept_row HPS.out.kept HN0.out (by decide)), ← hdr']; rfl
          clear hdr hdr'
          go_wp2_with (first | (at_builtin; refine of_stopT ?_))
          unfold StopT
          refine wl_appS rfl _ _ rfl B vs _ rfl HPS.out.buf ⟨#[112, 111, 114, 116, 32]⟩ rfl (by have := hlen.out; rw [HAC.out, HFST.out] at this; simp only [List.length_append, List.length_cons, List.length_nil] at this ⊢; show _ + 5 ≤ _; omega) zs ?_
          intro vq wq PQ
          have HPQ : Hid (Pt B wA wq vq (bs ++ wDefault ++ x.clauses.flatMap claP ++ [32, 45, 62, 32] ++ [112, 111, 114, 116, 32])) := HPS.out.trans PQ
          have zq : B ≤ wq.heap.size := pt_size HPQ.out zA
          have KQ : Hid (wq.heap[w.heap.size]? = some (.cells (rawV x (.slice o n cap)) 28 (0, 0))) := kept_row HPQ.out.kept HN0.out (by decide)
          clear PQ s5
          simp only [Act.put, List.setIfInBounds_toArray, List.set_cons_succ, List.set_cons_zero]
          go_wp2_with (first
            | (refine wl_loadE (E := FigE) FigOk rfl _ rfl w.heap.size 6 rfl _ _ _ (figV x.port) rfl KQ.out (by intro j hj; match j, hj with | 0, _ => rfl | 1, _ => rfl) ?_))
          have HTB : Hid (Lib.TabBelow Tryd.prog B wq "internal/strconv.uint64pow10" .u64 Lib.pow10Tab) := HT.out.on (HPA.out.below.trans HPQ.out.below)
          refine (CP.out x.port _ _ _ HOK.out.2.1 HPQ.out.buf zq (by have := hlen.out; rw [HAC.out, HFST.out] at this; simp only [List.length_append, List.length_cons, List.length_nil] at this ⊢; omega) HTB.out).mono ?_
          rintro e wt ⟨vt, rfl, PT⟩
          have HPT : Hid (Pt B wA wt vt (bs ++ wDefault ++ x.clauses.flatMap claP ++ [32, 45, 62, 32] ++ actP x)) := by
            have := HPQ.out.trans PT
            show Pt _ _ _ _ _
            rw [HAC.out, show wPort ++ (32 :: decI x.port.n) = [112, 111, 114, 116, 32] ++ decI x.port.n from rfl, ← List.append_assoc]
            exact this
          clear PT
          have zt : B ≤ wt.heap.size := pt_size HPT.out zA
          go_wp2_with (first | (at_builtin; refine of_stopT ?_))
          unfold StopT
          refine wl_appB rfl _ _ rfl B vt _ rfl ((HPT.out.alloc zt _).buf) wt.heap.size 10 rfl (heap_new _ _ _ rfl) (by have := hlen.out; simp only [List.length_append, List.length_cons, List.length_nil] at this ⊢; rw [HFST.out] at this; omega) (by simp; omega) ?_
          intro vz wz PZ
          have HPZ : Hid (Pt B wA wz vz (bs ++ wDefault ++ x.clauses.flatMap claP ++ [32, 45, 62, 32] ++ actP x ++ [10])) := (HPT.out.alloc zt _).trans PZ
          clear PZ
          simp only [Act.put, List.setIfInBounds_toArray, List.set_cons_succ, List.set_cons_zero]
          go_wp2_with fail
          go_ret
          refine ⟨_, rfl, ?_⟩
          rw [HROW.out, HFST.out]
          have := HPA.out.trans HPZ.out
          simpa [List.append_assoc] using this
  · have HFST : Hid ((if x.dflt then wDefault else decI x.prio.n) = decI x.prio.n) := if_neg hdf
    have hdf' : x.dflt = false := by simpa using hdf
    rw [hdf'] at q1
    clear hdf hdf'
    go_enter Tryd.func8, Tryd.ntmps8
    go_wp2_with (first
      | (refine wl_loadE (E := FigE) FigOk rfl _ rfl w.heap.size 2 rfl _ _ _ (figV x.prio) rfl (by rw [← HA.out]; exact HN0.out) (by intro j hj; match j, hj with | 0, _ => rfl | 1, _ => rfl) ?_))
    rw [← HA.out]
    clear q1
    refine (CP.out x.prio _ _ _ HOK.out.1 HPA.out.buf zA (by have := hlen.out; omega) (HT.out.on HPA.out.below)).mono ?_
    rintro e wh ⟨vh, rfl, PH⟩
    have HPH : Hid (Pt B wA wh vh (bs ++ decI x.prio.n)) := PH
    clear PH
    have zh : B ≤ wh.heap.size := pt_size HPH.out zA
    have s4 : wh.cell? ⟨w.heap.size, 4, none⟩ = some (.slice o n cap) := by rw [cell_of_row _ _ _ _ _ _ (kept_row HPH.out.kept HN0.out (by decide))]; rfl
    go_wp2_with fail
    clear s4
    go_loopw [0, 18] (fun b i wr => ∃ k : Nat, k ≤ n ∧ i = .int .i64 (k : Int) ∧ Pt B wA wr b (bs ++ decI x.prio.n ++ (x.clauses.take k).flatMap claP)) (fun _ i _ => n - (intOf i).toNat)
    case atStart => exact ⟨0, Nat.zero_le _, rfl, by have := HPH.out; simpa using this⟩
    case round =>
      obtain ⟨k, hk, rfl, PJ⟩ := hrel
      have HPJ : Hid (Pt B wA wr u0 (bs ++ decI x.prio.n ++ (x.clauses.take k).flatMap claP)) := PJ
      have zj : B ≤ wr.heap.size := pt_size PJ zA
      clear PJ
      by_cases hlt : k < n
      · have B0 : Below B W0 wr := H0.out.trans (HPA.out.below.trans HPJ.out.below)
        obtain ⟨g, off, cur, ty, fr, c, u', rfl, hg, hc, hcj, hfig⟩ := NSl.at HU.out k hlt
        have hg' : wr.heap[g]? = some (.cells cur ty fr) := (B0.block g (by rw [hW0]; exact (Array.getElem?_eq_some_iff.1 hg).1)).trans hg
        obtain ⟨o', c', rfl, _, _⟩ := GSl.slice hfig
        have HFG : Hid (FigsAt W0 c (.slice o' c.nums.length c')) := hfig
        have HMC : Hid (c ∈ x.clauses) := List.mem_of_getElem? hcj
        have HTK : Hid ((x.clauses.take (k + 1)).flatMap claP = (x.clauses.take k).flatMap claP ++ claP c) := clas_take _ k c hcj
        have K1 : Hid (wr.heap[g]? = some (.cells cur ty fr)) := hg'
        have H1 : Hid (∀ q, q < 5 → cur[off + k * 5 + q]? = (claV c (.slice o' c.nums.length c'))[q]?) := hc
        have hlt' : (k : Int) < (n : Int) := by omega
        have HAL : Hid (Pt B wA (wr.alloc (.cells (claV c (.slice o' c.nums.length c')) 31)) u0 (bs ++ decI x.prio.n ++ (x.clauses.take k).flatMap claP)) := HPJ.out.alloc zj _
        have KF : Hid ((wr.alloc (.cells (claV c (.slice o' c.nums.length c')) 31)).heap[wr.heap.size]? = some (.cells (claV c (.slice o' c.nums.length c')) 31 (0, 0))) := heap_new _ _ _ rfl
        clear hg hg' hc hcj hfig B0
        go_wp2_with (first
          | (refine wl_loadE (E := ClaE) ClaOk rfl _ rfl g (off + k * 5) rfl cur ty fr (claV c (.slice o' c.nums.length c')) rfl K1.out H1.out ?_)
          | (refine wl_storeE (E := ClaE) ClaOk rfl _ _ rfl wr.heap.size (claV c (.slice o' c.nums.length c')) ⟨rfl, by simp [claV, Value.oneCell']⟩ rfl rfl _ (heap_new _ _ _ rfl) rfl _ (setRow_new _ _ _ _ _ rfl) ?_)
          | (refine wl_loadE (E := ClaE) ClaOk rfl _ rfl wr.heap.size 0 rfl _ _ _ (claV c (.slice o' c.nums.length c')) rfl KF.out (own_cells _ _) ?_))
        refine (CC.out c _ _ _ _ HMC.out HFG.out (H0.out.trans (HPA.out.below.trans HAL.out.below)) HAL.out.buf ?_ (HT.out.on (HPA.out.below.trans HAL.out.below))).mono ?_
        · have h1 := flat_take_le x.clauses (k + 1)
          rw [HTK.out] at h1
          have h2 := hlen.out
          rw [HFST.out] at h2
          simp only [List.length_append] at h1 h2 ⊢
          omega
        rintro e w6 ⟨v6, rfl, P6⟩
        have HP6 : Hid (Pt B wA w6 v6 (bs ++ decI x.prio.n ++ (x.clauses.take (k + 1)).flatMap claP)) := by
          have := HAL.out.trans P6
          show Pt _ _ _ _ _
          rw [HTK.out, ← List.append_assoc]
          exact this
        clear P6
        go_wp2_with fail
        go_roundw
        case rel => exact ⟨k + 1, by omega, by go_num, HP6.out⟩
        case measure => simp [intOf]; omega
      · have hlt' : (n : Int) ≤ (k : Int) := by omega
        have htk : x.clauses.take k = x.clauses := List.take_of_length_le (by have := HN.out; omega)
        rw [htk] at HPJ
        clear hlt htk
        go_wp2_with (first | (at_builtin; refine of_stopT ?_))
        unfold StopT
        refine wl_appS rfl _ _ rfl B u0 _ rfl HPJ.out.buf ⟨#[32, 45, 62, 32]⟩ rfl (by have := hlen.out; rw [HFST.out] at this; simp only [List.length_append] at this ⊢; show _ + 4 ≤ _; omega) zj ?_
        intro vs ws PS
        have HPS : Hid (Pt B wA ws vs (bs ++ decI x.prio.n ++ x.clauses.flatMap claP ++ [32, 45, 62, 32])) := HPJ.out.trans PS
        have zs : B ≤ ws.heap.size := pt_size HPS.out zA
        clear PS
        simp only [Act.put, List.setIfInBounds_toArray, List.set_cons_succ, List.set_cons_zero]
        by_cases hdr : x.drop = true
        · skip
          have HAC : Hid (actP x = wDrop) := by show _ = _; unfold actP; rw [if_pos hdr]
          have s5 : ws.cell? ⟨w.heap.size, 5, none⟩ = some (.bool true) := by rw [cell_of_row _ _ _ _ _ _ (kept_row HPS.out.kept HN0.out (by decide)), ← hdr]; rfl
          clear hdr
          go_wp2_with (first | (at_builtin; refine of_stopT ?_))
          unfold StopT
          refine wl_appS rfl _ _ rfl B vs _ rfl HPS.out.buf ⟨#[100, 114, 111, 112]⟩ rfl (by have := hlen.out; rw [HAC.out, HFST.out] at this; simp only [List.length_append, List.length_cons, List.length_nil] at this ⊢; show _ + 4 ≤ _; omega) zs ?_
          intro vt wt PT
          have HPT : Hid (Pt B wA wt vt (bs ++ decI x.prio.n ++ x.clauses.flatMap claP ++ [32, 45, 62, 32] ++ actP x)) := by have := HPS.out.trans PT; rw [HAC.out]; exact this
          clear PT s5
          simp only [Act.put, List.setIfInBounds_toArray, List.set_cons_succ, List.set_cons_zero]
          have zt : B ≤ wt.heap.size := pt_size HPT.out zA
          go_wp2_with (first | (at_builtin; refine of_stopT ?_))
          unfold StopT
          refine wl_appB rfl _ _ rfl B vt _ rfl ((HPT.out.alloc zt _).buf) wt.heap.size 10 rfl (heap_new _ _ _ rfl) (by have := hlen.out; simp only [List.length_append, List.length_cons, List.length_nil] at this ⊢; rw [HFST.out] at this; omega) (by simp; omega) ?_
          intro vz wz PZ
          have HPZ : Hid (Pt B wA wz vz (bs ++ decI x.prio.n ++ x.clauses.flatMap claP ++ [32, 45, 62, 32] ++ actP x ++ [10])) := (HPT.out.alloc zt _).trans PZ
          clear PZ
          simp only [Act.put, List.setIfInBounds_toArray, List.set_cons_succ, List.set_cons_zero]
          go_wp2_with fail
          go_ret
          refine ⟨_, rfl, ?_⟩
          rw [HROW.out, HFST.out]
          have := HPA.out.trans HPZ.out
          simpa [List.append_assoc] using this
        · skip
          have hdr' : x.drop = false := by simpa using hdr
          have HAC : Hid (actP x = wPort ++ (32 :: decI x.port.n)) := by show _ = _; unfold actP; rw [if_neg hdr]
          have s5 : ws.cell? ⟨w.heap.size, 5, none⟩ = some (.bool false) := by rw [cell_of_row _ _ _ _ _ _ (kept_row HPS.out.kept HN0.out (by decide)), ← hdr']; rfl
          clear hdr hdr'
          go_wp2_with (first | (at_builtin; refine of_stopT ?_))
          unfold StopT
          refine wl_appS rfl _ _ rfl B vs _ rfl HPS.out.buf ⟨#[112, 111, 114, 116, 32]⟩ rfl (by have := hlen.out; rw [HAC.out, HFST.out] at this; simp only [List.length_append, List.length_cons, List.length_nil] at this ⊢; show _ + 5 ≤ _; omega) zs ?_
          intro vq wq PQ
          have HPQ : Hid (Pt B wA wq vq (bs ++ decI x.prio.n ++ x.clauses.flatMap claP ++ [32, 45, 62, 32] ++ [112, 111, 114, 116, 32])) := HPS.out.trans PQ
          have zq : B ≤ wq.heap.size := pt_size HPQ.out zA
          have KQ : Hid (wq.heap[w.heap.size]? = some (.cells (rawV x (.slice o n cap)) 28 (0, 0))) := kept_row HPQ.out.kept HN0.out (by decide)
          clear PQ s5
          simp only [Act.put, List.setIfInBounds_toArray, List.set_cons_succ, List.set_cons_zero]
          go_wp2_with (first
            | (refine wl_loadE (E := FigE) FigOk rfl _ rfl w.heap.size 6 rfl _ _ _ (figV x.port) rfl KQ.out (by intro j hj; match j, hj with | 0, _ => rfl | 1, _ => rfl) ?_))
          have HTB : Hid (Lib.TabBelow Tryd.prog B wq "internal/strconv.uint64pow10" .u64 Lib.pow10Tab) := HT.out.on (HPA.out.below.trans HPQ.out.below)
          refine (CP.out x.port _ _ _ HOK.out.2.1 HPQ.out.buf zq (by have := hlen.out; rw [HAC.out, HFST.out] at this; simp only [List.length_append, List.length_cons, List.length_nil] at this ⊢; omega) HTB.out).mono ?_
          rintro e wt ⟨vt, rfl, PT⟩
          have HPT : Hid (Pt B wA wt vt (bs ++ decI x.prio.n ++ x.clauses.flatMap claP ++ [32, 45, 62, 32] ++ actP x)) := by
            have := HPQ.out.trans PT
            show Pt _ _ _ _ _
            rw [HAC.out, show wPort ++ (32 :: decI x.port.n) = [112, 111, 114, 116, 32] ++ decI x.port.n from rfl, ← List.append_assoc]
            exact this
          clear PT
          have zt : B ≤ wt.heap.size := pt_size HPT.out zA
          go_wp2_with (first | (at_builtin; refine of_stopT ?_))
          unfold StopT
          refine wl_appB rfl _ _ rfl B vt _ rfl ((HPT.out.alloc zt _).buf) wt.heap.size 10 rfl (heap_new _ _ _ rfl) (by have := hlen.out; simp only [List.length_append, List.length_cons, List.length_nil] at this ⊢; rw [HFST.out] at this; omega) (by simp; omega) ?_
          intro vz wz PZ
          have HPZ : Hid (Pt B wA wz vz (bs ++ decI x.prio.n ++ x.clauses.flatMap claP ++ [32, 45, 62, 32] ++ actP x ++ [10])) := (HPT.out.alloc zt _).trans PZ
          clear PZ
          simp only [Act.put, List.setIfInBounds_toArray, List.set_cons_succ, List.set_cons_zero]
          go_wp2_with fail
          go_ret
          refine ⟨_, rfl, ?_⟩
          rw [HROW.out, HFST.out]
          have := HPA.out.trans HPZ.out
          simpa [List.append_assoc] using this
end Go.Proofs.YtgcfdcgmddjhbaaDoor
