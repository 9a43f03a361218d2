import Derived.Test.YthddlchkbnmcaaaGreatDoorJ27
namespace Go.Proofs.YthddlchkbnmcaaaGreatDoor
open Go Go.RowKit
set_option maxRecDepth 20000

theorem addr_facts {c : Cla} (h : goodC c) (hw : isAddrW c.word = true) (hp : isPortW c.word = false) (ho : (c.word == wProto) = false) : (c.nums.length = if c.slash then 5 else 4) ∧ ∀ k, k < 4 → 0 ≤ nth c k ∧ nth c k ≤ 255 := by
  have hm : mustN c = if c.slash then 5 else 4 := by unfold mustN; rw [if_pos hw]
  refine ⟨by rw [h.2.1, hm], fun k hk => ?_⟩
  have := nth_in h (k := k) (by rw [hm]; split <;> omega)
  have e : mostN c.word k = 255 := by
    unfold mostN
    rw [hp, ho, if_neg (by decide), if_neg]
    simp only [Bool.and_eq_true, beq_iff_eq]
    omega
  rw [e] at this
  exact ⟨this.1, this.2.1⟩
theorem good_pos {c : Cla} (h : goodC c) : 0 < c.nums.length := by
  have := h.1
  rw [h.2.1]
  omega
/-- The meaning of a line's first clauses. -/
def meanK (x : Raw) (k : Nat) : Ent := (x.clauses.take k).foldl setC (ent0 x)
theorem meanK_next {x : Raw} {k : Nat} {c : Cla} (h : x.clauses[k]? = some c) : meanK x (k + 1) = setC (meanK x k) c := by
  obtain ⟨hk, rfl⟩ := List.getElem?_eq_some_iff.1 h
  unfold meanK
  rw [List.take_succ_eq_append_getElem hk, List.foldl_append]
  rfl
theorem setC_src {x : Ent} {c : Cla} (h : c.word = wSrc) : entV (setC x c) = ((entV x).setIfInBounds 2 (.int .u32 (preC c).1)).setIfInBounds 3 (.int .i64 (preC c).2) := by
  unfold setC; rw [if_pos h]; rfl
theorem setC_dst {x : Ent} {c : Cla} (h : c.word = wDst) : entV (setC x c) = ((entV x).setIfInBounds 4 (.int .u32 (preC c).1)).setIfInBounds 5 (.int .i64 (preC c).2) := by
  unfold setC; rw [if_neg (by rw [h]; decide), if_pos h]; rfl
theorem setC_sport {x : Ent} {c : Cla} (h : c.word = wSport) : entV (setC x c) = ((entV x).setIfInBounds 6 (.int .i64 (porC c).1)).setIfInBounds 7 (.int .i64 (porC c).2) := by
  unfold setC; rw [if_neg (by rw [h]; decide), if_neg (by rw [h]; decide), if_pos h]; rfl
theorem setC_dport {x : Ent} {c : Cla} (h : c.word = wDport) : entV (setC x c) = ((entV x).setIfInBounds 8 (.int .i64 (porC c).1)).setIfInBounds 9 (.int .i64 (porC c).2) := by
  unfold setC; rw [if_neg (by rw [h]; decide), if_neg (by rw [h]; decide), if_neg (by rw [h]; decide), if_pos h]; rfl
theorem setC_proto {x : Ent} {c : Cla} (h : c.word = wProto) : entV (setC x c) = (entV x).setIfInBounds 10 (.int .i64 (nth c 0)) := by
  unfold setC; rw [if_neg (by rw [h]; decide), if_neg (by rw [h]; decide), if_neg (by rw [h]; decide), if_neg (by rw [h]; decide), if_pos h]; rfl
theorem tc_cell {w : World} {g k : Nat} {cs : Array Value} {t : TypeId} {fr : Nat × Nat} (h : w.heap[g]? = some (.cells cs t fr)) (hf : fr = (0, 0)) (i : Nat) (v : Value) (j : Nat) (hj : k ≠ j) (y : Value) (hy : cs[j]? = some y) : (w.setCell ⟨g, k, none⟩ v).cell? ⟨g, j, none⟩ = some y ∧ (w.setCell ⟨g, k, none⟩ v).frozen? ⟨g, i, none⟩ = false := by
  refine ⟨?_, tc_frozen (tc_row h v) hf⟩
  rw [cell_of_row _ _ _ _ _ _ (tc_row h v), Array.getElem?_setIfInBounds_ne hj]
  exact hy
theorem good_word {c : Cla} (h : goodC c) : c.word = wSrc ∨ c.word = wDst ∨ c.word = wSport ∨ c.word = wDport ∨ c.word = wProto := by
  rcases word_cases c.word with h1 | h1 | h1 | h1 | h1 | ⟨e0, e1, e2, e3, e4⟩
  · exact .inl h1
  · exact .inr (.inl h1)
  · exact .inr (.inr (.inl h1))
  · exact .inr (.inr (.inr (.inl h1)))
  · exact .inr (.inr (.inr (.inr h1)))
  · exfalso
    refine h.1 ?_
    unfold mustN isAddrW isPortW wSrc wDst wSport wDport wProto
    simp only [e0, e1, e2, e3, e4]
    rfl

set_option maxHeartbeats 16000000 in
set_option maxRecDepth 100000 in
theorem meaning_any (x : Raw) (u : Value) (w : World) (hu : ClasAt w x u) (hr : x.dflt = false → faultR x = .ok ()) :
    Calls Tryz.prog 49 #[.agg (rawV x u)] w fun e w' => e = .returned (.agg (entV (meaning x))) ∧ Below w.heap.size w w' := by
  have PF : Hid (∀ (c : Cla) (u : Value) W, FigsAt W c u → goodC c → isAddrW c.word = true → isPortW c.word = false → (c.word == wProto) = false → Calls Tryz.prog 76 #[.agg (claV c u)] W fun x w' => x = .returned (.tuple #[.int .u32 (preC c).1, .int .i64 (preC c).2]) ∧ Below W.heap.size W w') := fun c u W h1 h2 h3 h4 h5 => prefix_any c u W h1 (addr_facts h2 h3 h4 h5).1 (addr_facts h2 h3 h4 h5).2
  have PO : Hid (∀ (c : Cla) (u : Value) W, FigsAt W c u → goodC c → Calls Tryz.prog 77 #[.agg (claV c u)] W fun x w' => x = .returned (.tuple #[.int .i64 (porC c).1, .int .i64 (porC c).2]) ∧ Below W.heap.size W w') := fun c u W h1 h2 => ports7_any c u W h1 (good_pos h2)
  obtain ⟨o, cap, rfl, hc1, hc2⟩ := NSl.slice hu
  have AC : Hid (∀ W, Calls Tryz.prog 75 #[.agg (rawV x (.slice o x.clauses.length cap))] W fun e w' => e = .returned (.int .i64 (actOf x)) ∧ Below W.heap.size W w') := fun W => action7_any x _ ⟨_, _, _, rfl⟩ W
  obtain ⟨n, hn⟩ : ∃ n, n = x.clauses.length := ⟨_, rfl⟩
  have HN : Hid (n = x.clauses.length) := hn
  rw [← hn] at hu hc1 AC ⊢
  have HU : Hid (ClasAt w x (.slice o n cap)) := hu
  unfold maxLen at hc2
  have b1 : Hid (((w.alloc (.cells (rawV x (.slice o n cap)) 92)).alloc (.cells EntE.zero 35)).heap[w.heap.size]? = some (.cells (rawV x (.slice o n cap)) 92 (0, 0))) := heap_past _ _ _ _ (heap_new _ _ _ rfl)
  have b2 : Hid (((w.alloc (.cells (rawV x (.slice o n cap)) 92)).alloc (.cells EntE.zero 35)).heap[w.heap.size + 1]? = some (.cells EntE.zero 35 (0, 0))) := heap_new _ _ _ (by simp)
  have B0 : Hid (Below w.heap.size w ((w.alloc (.cells (rawV x (.slice o n cap)) 92)).alloc (.cells EntE.zero 35))) := below2 _ _ _
  have c1 := (raw_f b1.out).2.1
  unfold EntE at c1
  simp only at c1
  clear hu hn
  cases hd : x.dflt with
  | true =>
    have hm : entV (meaning x) = #[.bool true, .int .i64 0, .int .u32 0, .int .i64 0, .int .u32 0, .int .i64 0, .int .i64 0, .int .i64 0, .int .i64 0, .int .i64 0, .int .i64 0, .int .i64 (actOf x)] := by unfold meaning; rw [hd]; rfl
    rw [hm]
    rw [hd] at c1
    clear hm
    go_enter Tryz.func49, Tryz.ntmps49
    go_wp2_with (first
      | (refine wl_loadE (E := RawE) RawOk rfl _ rfl w.heap.size 0 rfl _ _ _ (rawV x (.slice o n cap)) rfl b1.out (own_cells _ _) ?_))
    refine (AC.out _).mono ?_
    rintro e w1 ⟨rfl, hb1⟩
    have k2 : Hid (w1.heap[w.heap.size + 1]? = some (.cells EntE.zero 35 (0, 0))) := (hb1.block _ (by simp)).trans b2.out
    have B1 : Hid (Below w.heap.size w w1) := B0.out.trans (hb1.mono (by simp; omega))
    clear hb1
    go_wp2_with (first
      | (refine wl_storeE (E := EntE) EntOk rfl _ _ rfl (w.heap.size + 1) #[.bool true, .int .i64 0, .int .u32 0, .int .i64 0, .int .u32 0, .int .i64 0, .int .i64 0, .int .i64 0, .int .i64 0, .int .i64 0, .int .i64 0, .int .i64 (actOf x)] ⟨rfl, by simp [Value.oneCell']⟩ rfl rfl _ k2.out rfl _ rfl ?_))
    refine retE (E := EntE) EntOk rfl rfl (w.heap.size + 1) rfl _ rfl (setRow_heap _ _ _ _ _ _ k2.out) ?_
    exact ⟨rfl, below_setRow B1.out (by omega) _⟩
  | false =>
    have hf := hr hd
    have hcs : faultCs [] x.clauses = .ok () := by
      unfold faultR at hf
      split at hf
      · cases hf
      · exact hf
    have GD : Hid (∀ c ∈ x.clauses, goodC c) := faultCs_in _ _ hcs
    have HM : Hid (meanK x n = meaning x) := by
      show _ = _
      unfold meanK
      rw [HN.out, List.take_length]
      exact mean_fold x hd hf
    have HD : Hid (x.dflt = false) := hd
    rw [hd] at c1
    clear hf hcs hd hr
    go_enter Tryz.func49, Tryz.ntmps49
    go_wp2_with fail
    refine mean3_region (by simp) w.heap.size x (.slice o n cap) rfl b1.out ⟨_, _, _, rfl⟩ ?_
    intro y w1 G hy hG hb1 hg1
    simp only [putsD, mean3_D, List.foldl_cons, List.foldl_nil, hy, Act.put, List.setIfInBounds_toArray, List.set_cons_succ, List.set_cons_zero]
    have hG' : w.heap.size + 1 < G := by simp at hG; omega
    have K0 : Hid (w1.heap[G]? = some (.cells (entV (meanK x 0)) 35 (0, 0))) := hg1
    have K1 : Hid (w1.heap[w.heap.size]? = some (.cells (rawV x (.slice o n cap)) 92 (0, 0))) := (hb1.block _ (by simp; omega)).trans b1.out
    have K2 : Hid (w1.heap[w.heap.size + 1]? = some (.cells EntE.zero 35 (0, 0))) := (hb1.block _ (by simp)).trans b2.out
    have B1 : Hid (Below w.heap.size w w1) := B0.out.trans (hb1.mono (by simp; omega))
    have c4 := (raw_f K1.out).2.2.2.1
    clear hb1 hg1 hG hy b1 b2 B0 c1
    go_wp2_with fail
    clear c4
    go_loopw [20] (fun i wr => ∃ k : Nat, k ≤ n ∧ i = .int .i64 (k : Int) ∧ wr.heap[G]? = some (.cells (entV (meanK x k)) 35 (0, 0)) ∧ wr.heap[w.heap.size + 1]? = some (.cells EntE.zero 35 (0, 0)) ∧ Below w.heap.size w wr) (fun i _ => n - (intOf i).toNat)
    case atStart => exact ⟨0, Nat.zero_le _, rfl, K0.out, K2.out, B1.out⟩
    case round =>
      clear K0 K1 K2 B1
      obtain ⟨k, hk, rfl, hr0, hr2, hb⟩ := hrel
      have R0 : Hid (wr.heap[G]? = some (.cells (entV (meanK x k)) 35 (0, 0))) := hr0
      have R2 : Hid (wr.heap[w.heap.size + 1]? = some (.cells EntE.zero 35 (0, 0))) := hr2
      have HB : Hid (Below w.heap.size w wr) := hb
      clear hr0 hr2 hb
      by_cases hlt : k < n
      · have hlt' : (k : Int) < (n : Int) := by omega
        obtain ⟨g, off, cur, ty, fr, c, u', rfl, hg, hc, hCk, hcl⟩ := NSl.at (NSl.below figs_below HU.out HB.out) k hlt
        have hgood := GD.out c (List.mem_of_getElem? hCk)
        have HG0 : Hid (goodC c) := hgood
        have HX : Hid (meanK x (k + 1) = setC (meanK x k) c) := meanK_next hCk
        have K1 : Hid (wr.heap[g]? = some (.cells cur ty fr)) := hg
        have H1 : Hid (∀ i, i < 5 → cur[off + k * 5 + i]? = (claV c u')[i]?) := hc
        have HF : Hid (FigsAt wr c u') := hcl
        have hGr : G < wr.heap.size := (Array.getElem?_eq_some_iff.1 R0.out).1
        obtain ⟨o1, cap1, rfl, hca1, hcb1⟩ := GSl.slice hcl
        obtain ⟨n1, hn1⟩ : ∃ n1, n1 = c.nums.length := ⟨_, rfl⟩
        rw [← hn1] at H1 HF hca1
        have hn0 : 0 < n1 := by rw [hn1]; exact good_pos hgood
        have HN1 : Hid (n1 = c.nums.length) := hn1
        unfold maxLen at hcb1
        have KN : Hid ((wr.alloc (.cells (claV c (.slice o1 n1 cap1)) 129)).heap[wr.heap.size]? = some (.cells (claV c (.slice o1 n1 cap1)) 129 (0, 0))) := heap_new _ _ _ rfl
        have n0 := (cla_f KN.out).1
        have BN : Hid (Below wr.heap.size wr (wr.alloc (.cells (claV c (.slice o1 n1 cap1)) 129))) := (Below.refl _ _).alloc (Nat.le_refl _) _
        have hw := good_word hgood
        clear hg hc hCk hcl hgood hn1
        rcases hw with hw | hw | hw | hw | hw
        · have HW : Hid (c.word = wSrc) := hw
          rw [hw] at n0
          have HS : Hid (entV (meanK x (k + 1)) = ((entV (meanK x k)).setIfInBounds 2 (.int .u32 (preC c).1)).setIfInBounds 3 (.int .i64 (preC c).2)) := by show _ = _; rw [HX.out]; exact setC_src hw
          clear hw
          unfold wSrc at n0
          go_wp2_with (first
          | (refine wl_loadE (E := ClaE) ClaOk rfl _ rfl g (off + k * 5) rfl cur ty fr (claV c (.slice o1 n1 cap1)) rfl K1.out H1.out ?_)
          | (refine wl_storeE (E := ClaE) ClaOk rfl _ _ rfl wr.heap.size (claV c (.slice o1 n1 cap1)) ⟨rfl, by simp [claV, Value.oneCell']⟩ rfl rfl _ (heap_new _ _ _ rfl) rfl _ (setRow_new _ _ _ _ _ rfl) ?_)
            | (refine wl_loadE (E := ClaE) ClaOk rfl _ rfl wr.heap.size 0 rfl _ _ _ (claV c (.slice o1 n1 cap1)) rfl KN.out (own_cells _ _) ?_))
          refine (PF.out c _ _ (figs_below _ _ _ _ BN.out HF.out) HG0.out (by rw [HW.out]; decide) (by rw [HW.out]; decide) (by rw [HW.out]; decide)).mono ?_
          rintro e w2 ⟨rfl, hb2⟩
          have B2 : Hid (Below wr.heap.size wr w2) := BN.out.trans (hb2.mono BN.out.size)
          have g2 : w2.heap[G]? = some (.cells (entV (meanK x k)) 35 (0, 0)) := (B2.out.block G hGr).trans R0.out
          have q1 : w2.cell? ⟨G, 2, none⟩ = some (.int .u32 (meanK x k).src) := by rw [cell_of_row _ _ _ _ _ _ g2]; rfl
          have z1 : w2.frozen? ⟨G, 2, none⟩ = false := tc_frozen g2 rfl
          obtain ⟨q2, z2⟩ := tc_cell (k := 2) g2 rfl 3 (.int .u32 (preC c).1) 3 (by decide) (.int .i64 (meanK x k).srcBits) rfl
          have G3 : Hid (((w2.setCell ⟨G, 2, none⟩ (.int .u32 (preC c).1)).setCell ⟨G, 3, none⟩ (.int .i64 (preC c).2)).heap[G]? = some (.cells (entV (meanK x (k + 1))) 35 (0, 0))) := by show _ = _; rw [HS.out]; exact tc_row (tc_row g2 _) _
          have R3 : Hid (((w2.setCell ⟨G, 2, none⟩ (.int .u32 (preC c).1)).setCell ⟨G, 3, none⟩ (.int .i64 (preC c).2)).heap[w.heap.size + 1]? = some (.cells EntE.zero 35 (0, 0))) := (tc_far (by omega) _).trans ((tc_far (by omega) _).trans ((B2.out.block _ (by omega)).trans R2.out))
          have B3 : Hid (Below w.heap.size w ((w2.setCell ⟨G, 2, none⟩ (.int .u32 (preC c).1)).setCell ⟨G, 3, none⟩ (.int .i64 (preC c).2))) := tc_below (tc_below (HB.out.trans (B2.out.mono HB.out.size)) (by omega) _ _) (by omega) _ _
          clear hb2 g2 n0
          go_wp2_with fail
          go_roundw
          case rel => exact ⟨k + 1, by omega, by go_num, G3.out, R3.out, B3.out⟩
          case measure => simp [intOf]; omega
        · have HW : Hid (c.word = wDst) := hw
          rw [hw] at n0
          have HS : Hid (entV (meanK x (k + 1)) = ((entV (meanK x k)).setIfInBounds 4 (.int .u32 (preC c).1)).setIfInBounds 5 (.int .i64 (preC c).2)) := by show _ = _; rw [HX.out]; exact setC_dst hw
          clear hw
          unfold wDst at n0
          go_wp2_with (first
          | (refine wl_loadE (E := ClaE) ClaOk rfl _ rfl g (off + k * 5) rfl cur ty fr (claV c (.slice o1 n1 cap1)) rfl K1.out H1.out ?_)
          | (refine wl_storeE (E := ClaE) ClaOk rfl _ _ rfl wr.heap.size (claV c (.slice o1 n1 cap1)) ⟨rfl, by simp [claV, Value.oneCell']⟩ rfl rfl _ (heap_new _ _ _ rfl) rfl _ (setRow_new _ _ _ _ _ rfl) ?_)
            | (refine wl_loadE (E := ClaE) ClaOk rfl _ rfl wr.heap.size 0 rfl _ _ _ (claV c (.slice o1 n1 cap1)) rfl KN.out (own_cells _ _) ?_))
          refine (PF.out c _ _ (figs_below _ _ _ _ BN.out HF.out) HG0.out (by rw [HW.out]; decide) (by rw [HW.out]; decide) (by rw [HW.out]; decide)).mono ?_
          rintro e w2 ⟨rfl, hb2⟩
          have B2 : Hid (Below wr.heap.size wr w2) := BN.out.trans (hb2.mono BN.out.size)
          have g2 : w2.heap[G]? = some (.cells (entV (meanK x k)) 35 (0, 0)) := (B2.out.block G hGr).trans R0.out
          have q1 : w2.cell? ⟨G, 4, none⟩ = some (.int .u32 (meanK x k).dst) := by rw [cell_of_row _ _ _ _ _ _ g2]; rfl
          have z1 : w2.frozen? ⟨G, 4, none⟩ = false := tc_frozen g2 rfl
          obtain ⟨q2, z2⟩ := tc_cell (k := 4) g2 rfl 5 (.int .u32 (preC c).1) 5 (by decide) (.int .i64 (meanK x k).dstBits) rfl
          have G3 : Hid (((w2.setCell ⟨G, 4, none⟩ (.int .u32 (preC c).1)).setCell ⟨G, 5, none⟩ (.int .i64 (preC c).2)).heap[G]? = some (.cells (entV (meanK x (k + 1))) 35 (0, 0))) := by show _ = _; rw [HS.out]; exact tc_row (tc_row g2 _) _
          have R3 : Hid (((w2.setCell ⟨G, 4, none⟩ (.int .u32 (preC c).1)).setCell ⟨G, 5, none⟩ (.int .i64 (preC c).2)).heap[w.heap.size + 1]? = some (.cells EntE.zero 35 (0, 0))) := (tc_far (by omega) _).trans ((tc_far (by omega) _).trans ((B2.out.block _ (by omega)).trans R2.out))
          have B3 : Hid (Below w.heap.size w ((w2.setCell ⟨G, 4, none⟩ (.int .u32 (preC c).1)).setCell ⟨G, 5, none⟩ (.int .i64 (preC c).2))) := tc_below (tc_below (HB.out.trans (B2.out.mono HB.out.size)) (by omega) _ _) (by omega) _ _
          clear hb2 g2 n0
          go_wp2_with fail
          go_roundw
          case rel => exact ⟨k + 1, by omega, by go_num, G3.out, R3.out, B3.out⟩
          case measure => simp [intOf]; omega
        · have HW : Hid (c.word = wSport) := hw
          rw [hw] at n0
          have HS : Hid (entV (meanK x (k + 1)) = ((entV (meanK x k)).setIfInBounds 6 (.int .i64 (porC c).1)).setIfInBounds 7 (.int .i64 (porC c).2)) := by show _ = _; rw [HX.out]; exact setC_sport hw
          clear hw
          unfold wSport at n0
          go_wp2_with (first
          | (refine wl_loadE (E := ClaE) ClaOk rfl _ rfl g (off + k * 5) rfl cur ty fr (claV c (.slice o1 n1 cap1)) rfl K1.out H1.out ?_)
          | (refine wl_storeE (E := ClaE) ClaOk rfl _ _ rfl wr.heap.size (claV c (.slice o1 n1 cap1)) ⟨rfl, by simp [claV, Value.oneCell']⟩ rfl rfl _ (heap_new _ _ _ rfl) rfl _ (setRow_new _ _ _ _ _ rfl) ?_)
            | (refine wl_loadE (E := ClaE) ClaOk rfl _ rfl wr.heap.size 0 rfl _ _ _ (claV c (.slice o1 n1 cap1)) rfl KN.out (own_cells _ _) ?_))
          refine (PO.out c _ _ (figs_below _ _ _ _ BN.out HF.out) HG0.out).mono ?_
          rintro e w2 ⟨rfl, hb2⟩
          have B2 : Hid (Below wr.heap.size wr w2) := BN.out.trans (hb2.mono BN.out.size)
          have g2 : w2.heap[G]? = some (.cells (entV (meanK x k)) 35 (0, 0)) := (B2.out.block G hGr).trans R0.out
          have q1 : w2.cell? ⟨G, 6, none⟩ = some (.int .i64 (meanK x k).slow) := by rw [cell_of_row _ _ _ _ _ _ g2]; rfl
          have z1 : w2.frozen? ⟨G, 6, none⟩ = false := tc_frozen g2 rfl
          obtain ⟨q2, z2⟩ := tc_cell (k := 6) g2 rfl 7 (.int .i64 (porC c).1) 7 (by decide) (.int .i64 (meanK x k).shigh) rfl
          have G3 : Hid (((w2.setCell ⟨G, 6, none⟩ (.int .i64 (porC c).1)).setCell ⟨G, 7, none⟩ (.int .i64 (porC c).2)).heap[G]? = some (.cells (entV (meanK x (k + 1))) 35 (0, 0))) := by show _ = _; rw [HS.out]; exact tc_row (tc_row g2 _) _
          have R3 : Hid (((w2.setCell ⟨G, 6, none⟩ (.int .i64 (porC c).1)).setCell ⟨G, 7, none⟩ (.int .i64 (porC c).2)).heap[w.heap.size + 1]? = some (.cells EntE.zero 35 (0, 0))) := (tc_far (by omega) _).trans ((tc_far (by omega) _).trans ((B2.out.block _ (by omega)).trans R2.out))
          have B3 : Hid (Below w.heap.size w ((w2.setCell ⟨G, 6, none⟩ (.int .i64 (porC c).1)).setCell ⟨G, 7, none⟩ (.int .i64 (porC c).2))) := tc_below (tc_below (HB.out.trans (B2.out.mono HB.out.size)) (by omega) _ _) (by omega) _ _
          clear hb2 g2 n0
          go_wp2_with fail
          go_roundw
          case rel => exact ⟨k + 1, by omega, by go_num, G3.out, R3.out, B3.out⟩
          case measure => simp [intOf]; omega
        · have HW : Hid (c.word = wDport) := hw
          rw [hw] at n0
          have HS : Hid (entV (meanK x (k + 1)) = ((entV (meanK x k)).setIfInBounds 8 (.int .i64 (porC c).1)).setIfInBounds 9 (.int .i64 (porC c).2)) := by show _ = _; rw [HX.out]; exact setC_dport hw
          clear hw
          unfold wDport at n0
          go_wp2_with (first
          | (refine wl_loadE (E := ClaE) ClaOk rfl _ rfl g (off + k * 5) rfl cur ty fr (claV c (.slice o1 n1 cap1)) rfl K1.out H1.out ?_)
          | (refine wl_storeE (E := ClaE) ClaOk rfl _ _ rfl wr.heap.size (claV c (.slice o1 n1 cap1)) ⟨rfl, by simp [claV, Value.oneCell']⟩ rfl rfl _ (heap_new _ _ _ rfl) rfl _ (setRow_new _ _ _ _ _ rfl) ?_)
            | (refine wl_loadE (E := ClaE) ClaOk rfl _ rfl wr.heap.size 0 rfl _ _ _ (claV c (.slice o1 n1 cap1)) rfl KN.out (own_cells _ _) ?_))
          refine (PO.out c _ _ (figs_below _ _ _ _ BN.out HF.out) HG0.out).mono ?_
          rintro e w2 ⟨rfl, hb2⟩
          have B2 : Hid (Below wr.heap.size wr w2) := BN.out.trans (hb2.mono BN.out.size)
          have g2 : w2.heap[G]? = some (.cells (entV (meanK x k)) 35 (0, 0)) := (B2.out.block G hGr).trans R0.out
          have q1 : w2.cell? ⟨G, 8, none⟩ = some (.int .i64 (meanK x k).dlow) := by rw [cell_of_row _ _ _ _ _ _ g2]; rfl
          have z1 : w2.frozen? ⟨G, 8, none⟩ = false := tc_frozen g2 rfl
          obtain ⟨q2, z2⟩ := tc_cell (k := 8) g2 rfl 9 (.int .i64 (porC c).1) 9 (by decide) (.int .i64 (meanK x k).dhigh) rfl
          have G3 : Hid (((w2.setCell ⟨G, 8, none⟩ (.int .i64 (porC c).1)).setCell ⟨G, 9, none⟩ (.int .i64 (porC c).2)).heap[G]? = some (.cells (entV (meanK x (k + 1))) 35 (0, 0))) := by show _ = _; rw [HS.out]; exact tc_row (tc_row g2 _) _
          have R3 : Hid (((w2.setCell ⟨G, 8, none⟩ (.int .i64 (porC c).1)).setCell ⟨G, 9, none⟩ (.int .i64 (porC c).2)).heap[w.heap.size + 1]? = some (.cells EntE.zero 35 (0, 0))) := (tc_far (by omega) _).trans ((tc_far (by omega) _).trans ((B2.out.block _ (by omega)).trans R2.out))
          have B3 : Hid (Below w.heap.size w ((w2.setCell ⟨G, 8, none⟩ (.int .i64 (porC c).1)).setCell ⟨G, 9, none⟩ (.int .i64 (porC c).2))) := tc_below (tc_below (HB.out.trans (B2.out.mono HB.out.size)) (by omega) _ _) (by omega) _ _
          clear hb2 g2 n0
          go_wp2_with fail
          go_roundw
          case rel => exact ⟨k + 1, by omega, by go_num, G3.out, R3.out, B3.out⟩
          case measure => simp [intOf]; omega
        · have HS : Hid (entV (meanK x (k + 1)) = (entV (meanK x k)).setIfInBounds 10 (.int .i64 (nth c 0))) := by show _ = _; rw [HX.out]; exact setC_proto hw
          rw [hw] at n0
          clear hw
          unfold wProto at n0
          obtain ⟨g1, off1, cur1, ty1, fr1, f, rfl, hg1, hc1', hf1⟩ := HF.out.at 0 hn0
          have hnf := nth_q hf1
          have cg : (wr.alloc (.cells (claV c (.slice (some ⟨g1, off1, none⟩) n1 cap1)) 129)).cell? ⟨g1, off1, none⟩ = some (.int .i64 (nth c 0)) := by
            rw [cell_of_row _ _ _ _ _ _ (heap_past _ _ _ _ hg1), hnf]
            have := hc1' 0 (by decide)
            rw [show off1 + 0 * FigE.size + 0 = off1 by simp] at this
            exact this
          have n2 := (cla_f KN.out).2.2.1
          have g2 : (wr.alloc (.cells (claV c (.slice (some ⟨g1, off1, none⟩) n1 cap1)) 129)).heap[G]? = some (.cells (entV (meanK x k)) 35 (0, 0)) := (BN.out.block G hGr).trans R0.out
          have q1 : (wr.alloc (.cells (claV c (.slice (some ⟨g1, off1, none⟩) n1 cap1)) 129)).cell? ⟨G, 10, none⟩ = some (.int .i64 (meanK x k).proto) := by rw [cell_of_row _ _ _ _ _ _ g2]; rfl
          have z1 : (wr.alloc (.cells (claV c (.slice (some ⟨g1, off1, none⟩) n1 cap1)) 129)).frozen? ⟨G, 10, none⟩ = false := tc_frozen g2 rfl
          have hp0 : (0 : Int) < (n1 : Int) := by omega
          obtain ⟨N, hN⟩ : ∃ N, N = nth c 0 := ⟨_, rfl⟩
          rw [← hN] at cg HS
          have G3 : Hid (((wr.setCell ⟨G, 10, none⟩ (.int .i64 N)).alloc (.cells (claV c (.slice (some ⟨g1, off1, none⟩) n1 cap1)) 129)).heap[G]? = some (.cells (entV (meanK x (k + 1))) 35 (0, 0))) := by show _ = _; rw [HS.out]; exact heap_past _ _ _ _ (tc_row R0.out _)
          have R3 : Hid (((wr.setCell ⟨G, 10, none⟩ (.int .i64 N)).alloc (.cells (claV c (.slice (some ⟨g1, off1, none⟩) n1 cap1)) 129)).heap[w.heap.size + 1]? = some (.cells EntE.zero 35 (0, 0))) := heap_past _ _ _ _ ((tc_far (by omega) _).trans R2.out)
          have B3 : Hid (Below w.heap.size w ((wr.setCell ⟨G, 10, none⟩ (.int .i64 N)).alloc (.cells (claV c (.slice (some ⟨g1, off1, none⟩) n1 cap1)) 129))) := (tc_below HB.out (by omega) _ _).alloc (tc_below HB.out (by omega) _ _).size _
          clear hg1 hc1' hf1 hnf g2 hN
          go_wp2_with (first
          | (refine wl_loadE (E := ClaE) ClaOk rfl _ rfl g (off + k * 5) rfl cur ty fr (claV c (.slice (some ⟨g1, off1, none⟩) n1 cap1)) rfl K1.out H1.out ?_)
          | (refine wl_storeE (E := ClaE) ClaOk rfl _ _ rfl wr.heap.size (claV c (.slice (some ⟨g1, off1, none⟩) n1 cap1)) ⟨rfl, by simp [claV, Value.oneCell']⟩ rfl rfl _ (heap_new _ _ _ rfl) rfl _ (setRow_new _ _ _ _ _ rfl) ?_)
            | fail)
          go_roundw
          case rel => exact ⟨k + 1, by omega, by go_num, G3.out, R3.out, B3.out⟩
          case measure => simp [intOf]; omega
      · have hlt' : (n : Int) ≤ (k : Int) := by omega
        obtain rfl : k = n := by omega
        clear hlt
        go_wp2_with (first
          | (refine wl_loadE (E := EntE) EntOk rfl _ rfl G 0 rfl _ _ _ (entV (meanK x k)) rfl R0.out (own_cells _ _) ?_)
          | (refine wl_storeE (E := EntE) EntOk rfl _ _ rfl (w.heap.size + 1) (entV (meanK x k)) (ent_fits _) rfl rfl _ R2.out rfl _ rfl ?_))
        refine retE (E := EntE) EntOk rfl rfl (w.heap.size + 1) rfl (entV (meanK x k)) rfl (setRow_heap _ _ _ _ _ _ R2.out) ?_
        exact ⟨by rw [HM.out], below_setRow HB.out (by omega) _⟩
end Go.Proofs.YthddlchkbnmcaaaGreatDoor
