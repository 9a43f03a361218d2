import Derived.Test.YtdibjhlckjjlfaaJ6
import Derived.Test.YtdibjhlckjjlfaaJ7
import Derived.Test.YtdibjhlckjjlfaaJ1
import Derived.Test.YtdibjhlckjjlfaaJ4
import Derived.Laws.AppendOwn
import Derived.Laws.OwnMore
import Derived.Laws.AppendOwnNone
import Derived.Maps.AppendAt
import Derived.OwnWalk
import Derived.Lib.Hide
import Derived.Test.YtdibjhlckjjlfaaJ5
namespace Go.Proofs.Ytdibjhlckjjlfaa
open Go Go.RowKit
set_option maxRecDepth 20000

/-! widen. -/
theorem wid_no1 {A : List (List Int × List Int)} {M : List Int} {c : List Int × List Int} {i : Nat} (h : bt c.2 i = false) : widA A M c i = c := by
  unfold widA
  rw [h]; simp
theorem wid_no2 {A : List (List Int × List Int)} {M : List Int} {c : List Int × List Int} {i : Nat} (h : bt M i = true) : widA A M c i = c := by
  unfold widA
  rw [h]; simp
theorem wid_no3 {A : List (List Int × List Int)} {M : List Int} {c : List Int × List Int} {i : Nat} (h : clearA A (freeA c i) = false) : widA A M c i = c := by
  unfold widA
  rw [h]; simp
theorem wid_yes {A : List (List Int × List Int)} {M : List Int} {c : List Int × List Int} {i : Nat} (h1 : bt c.2 i = true) (h2 : bt M i = false) (h3 : clearA A (freeA c i) = true) : widA A M c i = freeA c i := by
  unfold widA
  rw [h1, h2, h3]; simp
theorem wids_right {A : List (List Int × List Int)} {M : List Int} {c : List Int × List Int} (h : rightA c) : ∀ n, rightA (widsA A M n c)
  | 0 => h
  | n + 1 => by rw [wids_succ]; exact wid_right n (wids_right h n)
theorem clearC_take {W : List (List Int × List Int)} {k : Nat} {x : List Int × List Int} {c : List Int × List Int} (h : W[k]? = some x) : clearA (W.take (k + 1)) c = (clearA (W.take k) c && !(mtA c x)) := by
  unfold clearA
  rw [List.take_add_one, h, List.all_append]
  simp
theorem clearC_no {W : List (List Int × List Int)} {k : Nat} {x : List Int × List Int} {c : List Int × List Int} (h : W[k]? = some x) (hm : mtA c x = true) : clearA W c = false := by
  rw [Bool.eq_false_iff]
  intro g
  unfold clearA at g
  rw [List.all_eq_true] at g
  have := g x (List.mem_of_getElem? h)
  rw [hm] at this; cases this
set_option maxHeartbeats 16000000 in
theorem widen_any (c d : List Int × List Int) (W : List (List Int × List Int)) (hR : rightA c) (hD1 : Byt d.1) (hD2 : Byt d.2) (v : Value) (w : World) (hs : Sl w v W) :
    Calls Try.prog 26 #[.agg (cv c.1 c.2), .agg (cv d.1 d.2), v] w fun e w' => e = .returned (.agg (cv (widsA W d.2 104 c).1 (widsA W d.2 104 c).2)) ∧ Below w.heap.size w w' := by
  obtain ⟨o, cap, rfl, hcn, hcap⟩ := hs.slice
  obtain ⟨n, hne⟩ : ∃ n, n = W.length := ⟨_, rfl⟩
  rw [← hne] at hs hcn ⊢
  have HN : Hid (n = W.length) := hne
  have HS : Hid (Sl w (.slice o n cap) W) := hs
  have HK : Hid (∀ k, rightA (widsA W d.2 k c)) := wids_right hR
  have HD2 : Hid (Byt d.2) := hD2
  have hVl := hR.1.1
  have hMl := hR.2.1.1
  have hdV := hD1.1
  have hdM := hD2.1
  obtain ⟨DV, DM⟩ := d
  dsimp only at HK HD2 hdV hdM ⊢
  unfold maxLen at hcap
  clear hs hne hR hD1 hD2
  go_enter Try.func26, Try.ntmps26
  go_wp2_with fail
  go_step3
  go_wp2_with fail
  go_step3
  go_wp2_with fail
  go_loopw [12] (fun i wr => ∃ k : Nat, k ≤ 104 ∧ i = .int .i64 (k : Int) ∧ Hid (wr.heap[w.heap.size]? = some (.cells (cv (widsA W DM k c).1 (widsA W DM k c).2) 30 (0, 0))) ∧ Hid (wr.heap[w.heap.size + 1]? = some (.cells (cv DV DM) 30 (0, 0))) ∧ Hid (wr.heap[w.heap.size + 2]? = some (.cells zeroC 30 (0, 0))) ∧ Hid (Below w.heap.size w wr)) (fun i _ => 104 - (intOf i).toNat)
  case atStart => exact ⟨0, Nat.zero_le _, rfl, heap_past _ _ _ _ (heap_past _ _ _ _ (heap_new _ _ _ rfl)), heap_past _ _ _ _ (heap_new _ _ _ (by simp)), heap_new _ _ _ (by simp), (((Below.refl _ _).alloc (Nat.le_refl _) _).alloc (by simp) _).alloc (by simp; omega) _⟩
  case round =>
    obtain ⟨k, hk, rfl, Z0, Z1, Z2, HB⟩ := hrel
    have hRk := HK.out k
    obtain ⟨U, N, hUN⟩ : ∃ U N, widsA W DM k c = (U, N) := ⟨_, _, rfl⟩
    rw [hUN] at Z0 hRk
    have hU := hRk.1
    have hN := hRk.2.1
    have hUl := hU.1
    have hNl := hN.1
    have HU : Hid (Byt U) := hU
    have HNN : Hid (Byt N) := hN
    have HRK : Hid (rightA (U, N)) := hRk
    have HUN : Hid (widsA W DM k c = (U, N)) := hUN
    clear hU hN hRk hUN
    by_cases hlt : k < 104
    · have hlt' : (k : Int) < 104 := by omega
      have E0 : Hid (widsA W DM (k + 1) c = widA W DM (U, N) k) := by
        show _ = _
        rw [wids_succ, HUN.out]
      obtain ⟨x, hx⟩ : ∃ x, x = bt N k := ⟨_, rfl⟩
      obtain ⟨y, hy⟩ : ∃ y, y = bt DM k := ⟨_, rfl⟩
      have D1 : Hid (∀ W, Calls Try.prog 36 #[.agg (hv N), .int .i64 (k : Int)] W fun e w' => e = .returned (.bool x) ∧ Below W.heap.size W w') := fun W' => by rw [hx]; exact hbit_nat N HNN.out k hlt W'
      have D2 : Hid (∀ W, Calls Try.prog 36 #[.agg (hv DM), .int .i64 (k : Int)] W fun e w' => e = .returned (.bool y) ∧ Below W.heap.size W w') := fun W' => by rw [hy]; exact hbit_nat DM HD2.out k hlt W'
      have HXX : Hid (x = bt N k) := hx
      have HYY : Hid (y = bt DM k) := hy
      clear hx hy
      go_wp2_with (first
        | (refine wl_loadM rfl _ rfl w.heap.size rfl U N Z0.out hUl hNl ?_))
      refine (D1.out _).mono ?_
      rintro e w1 ⟨rfl, hb1⟩
      have B1 : Hid (Below w.heap.size w w1) := HB.out.trans (hb1.mono HB.out.size)
      have M0 : Hid (w1.heap[w.heap.size]? = some (.cells (cv U N) 30 (0, 0))) := (hb1.block _ (Array.getElem?_eq_some_iff.1 Z0.out).1).trans Z0.out
      have M1 : Hid (w1.heap[w.heap.size + 1]? = some (.cells (cv DV DM) 30 (0, 0))) := (hb1.block _ (Array.getElem?_eq_some_iff.1 Z1.out).1).trans Z1.out
      have M2 : Hid (w1.heap[w.heap.size + 2]? = some (.cells zeroC 30 (0, 0))) := (hb1.block _ (Array.getElem?_eq_some_iff.1 Z2.out).1).trans Z2.out
      clear hb1 Z0 Z1 Z2 HB D1
      cases x with
      | false =>
        have E1 : Hid (widsA W DM (k + 1) c = (U, N)) := by
          show _ = _
          rw [E0.out]; exact wid_no1 HXX.out.symm
        go_wp2_with fail
        go_roundw
        case rel => exact ⟨k + 1, by omega, by go_num, by rw [E1.out]; exact M0, M1, M2, B1⟩
        case measure => simp [intOf]; omega
      | true =>
        go_wp2_with (first
          | (refine wl_loadM rfl _ rfl (w.heap.size + 1) rfl DV DM M1.out hdV hdM ?_))
        refine (D2.out _).mono ?_
        rintro e w2 ⟨rfl, hb2⟩
        have B2 : Hid (Below w.heap.size w w2) := B1.out.trans (hb2.mono B1.out.size)
        have L0 : Hid (w2.heap[w.heap.size]? = some (.cells (cv U N) 30 (0, 0))) := (hb2.block _ (Array.getElem?_eq_some_iff.1 M0.out).1).trans M0.out
        have L1 : Hid (w2.heap[w.heap.size + 1]? = some (.cells (cv DV DM) 30 (0, 0))) := (hb2.block _ (Array.getElem?_eq_some_iff.1 M1.out).1).trans M1.out
        have L2 : Hid (w2.heap[w.heap.size + 2]? = some (.cells zeroC 30 (0, 0))) := (hb2.block _ (Array.getElem?_eq_some_iff.1 M2.out).1).trans M2.out
        clear hb2 M0 M1 M2 B1 D2
        cases y with
        | true =>
          have E1 : Hid (widsA W DM (k + 1) c = (U, N)) := by
            show _ = _
            rw [E0.out]; exact wid_no2 HYY.out.symm
          go_wp2_with fail
          go_roundw
          case rel => exact ⟨k + 1, by omega, by go_num, by rw [E1.out]; exact L0, L1, L2, B2⟩
          case measure => simp [intOf]; omega
        | false =>
          have CF0 : ∀ W, Calls Try.prog 37 #[.agg (cv U N), .int .i64 (k : Int)] W fun e w' => e = .returned (.tuple #[.agg (cv (looV U N k) (looM N k)), .int .i64 0]) ∧ Below W.heap.size W w' := fun W' => loose_in U N HU.out HNN.out k hlt W'
          rw [(loo_freeA HRK.out k).1, (loo_freeA HRK.out k).2] at CF0
          obtain ⟨V2, M2', hVM⟩ : ∃ V2 M2', freeA (U, N) k = (V2, M2') := ⟨_, _, rfl⟩
          have hR2 := rightA_free HRK.out k
          rw [hVM] at hR2 CF0
          have HVM : Hid (freeA (U, N) k = (V2, M2')) := hVM
          have hV2 := hR2.1.1
          have hM2 := hR2.2.1.1
          have HV2 : Hid (Byt V2) := hR2.1
          have HM2 : Hid (Byt M2') := hR2.2.1
          have CF : Hid (∀ W, Calls Try.prog 37 #[.agg (cv U N), .int .i64 (k : Int)] W fun e w' => e = .returned (.tuple #[.agg (cv V2 M2'), .int .i64 0]) ∧ Below W.heap.size W w') := CF0
          clear CF0 hR2 hVM
          go_wp2_with (first
            | (refine wl_loadC rfl _ rfl w.heap.size rfl U N L0.out hUl hNl ?_))
          refine (CF.out _).mono ?_
          rintro e w3 ⟨rfl, hb3⟩
          have B3 : Hid (Below w.heap.size w w3) := B2.out.trans (hb3.mono B2.out.size)
          have P0 : Hid (w3.heap[w.heap.size]? = some (.cells (cv U N) 30 (0, 0))) := (hb3.block _ (Array.getElem?_eq_some_iff.1 L0.out).1).trans L0.out
          have P1 : Hid (w3.heap[w.heap.size + 1]? = some (.cells (cv DV DM) 30 (0, 0))) := (hb3.block _ (Array.getElem?_eq_some_iff.1 L1.out).1).trans L1.out
          have P2 : Hid (w3.heap[w.heap.size + 2]? = some (.cells zeroC 30 (0, 0))) := (hb3.block _ (Array.getElem?_eq_some_iff.1 L2.out).1).trans L2.out
          have B4 : Hid (Below w.heap.size w (w3.alloc (.cells (cv V2 M2') 30))) := B3.out.alloc B3.out.size _
          have Q0 : Hid ((w3.alloc (.cells (cv V2 M2') 30)).heap[w.heap.size]? = some (.cells (cv U N) 30 (0, 0))) := heap_past _ _ _ _ P0.out
          have Q1 : Hid ((w3.alloc (.cells (cv V2 M2') 30)).heap[w.heap.size + 1]? = some (.cells (cv DV DM) 30 (0, 0))) := heap_past _ _ _ _ P1.out
          have Q2 : Hid ((w3.alloc (.cells (cv V2 M2') 30)).heap[w.heap.size + 2]? = some (.cells zeroC 30 (0, 0))) := heap_past _ _ _ _ P2.out
          have Q3 : Hid ((w3.alloc (.cells (cv V2 M2') 30)).heap[w3.heap.size]? = some (.cells (cv V2 M2') 30 (0, 0))) := heap_new _ _ _ rfl
          obtain ⟨s3, hs3⟩ : ∃ s3, s3 = w3.heap.size := ⟨_, rfl⟩
          have hlt3 : w.heap.size + 2 < s3 := by rw [hs3]; exact (Array.getElem?_eq_some_iff.1 P2.out).1
          rw [← hs3] at Q3
          clear hb3 L0 L1 L2 B2 CF P0 P1 P2 B3
          go_wp2_with (first
            | (refine wl_storeC rfl _ _ rfl w3.heap.size V2 M2' rfl rfl _ (heap_new _ _ _ rfl) rfl hV2 hM2 _ (setRow_new _ _ _ _ _ rfl) ?_))
          obtain ⟨w4, hw4⟩ : ∃ w4, w4 = w3.alloc (.cells (cv V2 M2') 30) := ⟨_, rfl⟩
          rw [← hw4] at B4 Q0 Q1 Q2 Q3 ⊢
          rw [← hs3]
          clear hs3 hw4
          go_loopw [34] (fun i wi => ∃ j : Nat, j ≤ n ∧ i = .int .i64 (j : Int) ∧ Hid (clearA (W.take j) (V2, M2') = true) ∧ Hid (wi.heap[w.heap.size]? = some (.cells (cv U N) 30 (0, 0))) ∧ Hid (wi.heap[w.heap.size + 1]? = some (.cells (cv DV DM) 30 (0, 0))) ∧ Hid (wi.heap[w.heap.size + 2]? = some (.cells zeroC 30 (0, 0))) ∧ Hid (wi.heap[s3]? = some (.cells (cv V2 M2') 30 (0, 0))) ∧ Hid (Below w.heap.size w wi)) (fun i _ => n - (intOf i).toNat)
          case atStart => exact ⟨0, Nat.zero_le _, rfl, rfl, Q0, Q1, Q2, Q3, B4⟩
          case round =>
            clear B4 Q0 Q1 Q2 Q3
            obtain ⟨j, hj, rfl, HC, Z0, Z1, Z2, Z3, HB⟩ := hrel
            by_cases hjlt : j < n
            · have hjlt' : (j : Int) < (n : Int) := by omega
              obtain ⟨g, off, cur, t, fr, P, Q, rfl, hg, hcc, hWk, hP, hQ⟩ := (Sl.below HS.out HB.out).at j hjlt
              have hPl := hP.1
              have hQl := hQ.1
              have K1 : Hid (wr.heap[g]? = some (.cells cur t fr)) := hg
              have H1 : Hid (∀ i, i < 26 → cur[off + j * 26 + i]? = (cv P Q)[i]?) := hcc
              have HWK : Hid (W[j]? = some (P, Q)) := hWk
              have D3 : Hid (∀ W, Calls Try.prog 21 #[.agg (cv V2 M2'), .agg (cv P Q)] W fun e w' => e = .returned (.bool (meets V2 M2' P Q)) ∧ Below W.heap.size W w') := fun W' => ameets_any V2 M2' P Q HV2.out HM2.out hP hQ W'
              have BN : Hid (Below w.heap.size w (wr.alloc (.cells (cv P Q) 30))) := HB.out.alloc HB.out.size _
              have KN : Hid ((wr.alloc (.cells (cv P Q) 30)).heap[wr.heap.size]? = some (.cells (cv P Q) 30 (0, 0))) := heap_new _ _ _ rfl
              have N0 : Hid ((wr.alloc (.cells (cv P Q) 30)).heap[w.heap.size]? = some (.cells (cv U N) 30 (0, 0))) := heap_past _ _ _ _ Z0.out
              have N1 : Hid ((wr.alloc (.cells (cv P Q) 30)).heap[w.heap.size + 1]? = some (.cells (cv DV DM) 30 (0, 0))) := heap_past _ _ _ _ Z1.out
              have N2 : Hid ((wr.alloc (.cells (cv P Q) 30)).heap[w.heap.size + 2]? = some (.cells zeroC 30 (0, 0))) := heap_past _ _ _ _ Z2.out
              have N3 : Hid ((wr.alloc (.cells (cv P Q) 30)).heap[s3]? = some (.cells (cv V2 M2') 30 (0, 0))) := heap_past _ _ _ _ Z3.out
              clear hg hcc hWk hP hQ
              go_wp2_with (first
                | (refine wl_loadCat rfl _ rfl g (off + j * 26) rfl cur t fr P Q hPl hQl K1.out H1.out ?_)
                | (refine wl_storeC rfl _ _ rfl wr.heap.size P Q rfl rfl _ (heap_new _ _ _ rfl) rfl hPl hQl _ (setRow_new _ _ _ _ _ rfl) ?_)
                | (refine wl_loadC rfl _ rfl wr.heap.size rfl P Q KN.out hPl hQl ?_)
                | (refine wl_loadC rfl _ rfl s3 rfl V2 M2' N3.out hV2 hM2 ?_))
              refine (D3.out _).mono ?_
              rintro e w5 ⟨rfl, hb5⟩
              have B5 : Hid (Below w.heap.size w w5) := BN.out.trans (hb5.mono BN.out.size)
              have R0 : Hid (w5.heap[w.heap.size]? = some (.cells (cv U N) 30 (0, 0))) := (hb5.block _ (Array.getElem?_eq_some_iff.1 N0.out).1).trans N0.out
              have R1 : Hid (w5.heap[w.heap.size + 1]? = some (.cells (cv DV DM) 30 (0, 0))) := (hb5.block _ (Array.getElem?_eq_some_iff.1 N1.out).1).trans N1.out
              have R2 : Hid (w5.heap[w.heap.size + 2]? = some (.cells zeroC 30 (0, 0))) := (hb5.block _ (Array.getElem?_eq_some_iff.1 N2.out).1).trans N2.out
              have R3 : Hid (w5.heap[s3]? = some (.cells (cv V2 M2') 30 (0, 0))) := (hb5.block _ (Array.getElem?_eq_some_iff.1 N3.out).1).trans N3.out
              clear hb5 BN KN N0 N1 N2 N3 Z0 Z1 Z2 Z3 HB K1 D3
              cases hm : meets V2 M2' P Q with
              | false =>
                have HC2 : Hid (clearA (W.take (j + 1)) (V2, M2') = true) := by
                  show _ = _
                  rw [clearC_take HWK.out, HC.out, Bool.true_and, Bool.not_eq_true']; exact hm
                clear hm
                go_wp2_with fail
                go_roundw
                case rel => exact ⟨j + 1, by omega, by go_num, HC2, R0, R1, R2, R3, B5⟩
                case measure => simp [intOf]; omega
              | true =>
                have E1 : Hid (widsA W DM (k + 1) c = (U, N)) := by
                  show _ = _
                  rw [E0.out]
                  refine wid_no3 ?_
                  rw [HVM.out]
                  exact clearC_no HWK.out hm
                clear hm
                go_wp2_with fail
                go_roundw
                case rel => exact ⟨k + 1, by omega, by go_num, by rw [E1.out]; exact R0, R1, R2, B5⟩
                case measure => simp [intOf]; omega
            · have hjlt' : ¬ (j : Int) < (n : Int) := by omega
              have E1 : Hid (widsA W DM (k + 1) c = (V2, M2')) := by
                show _ = _
                have hcl := HC.out
                have := HN.out
                rw [List.take_of_length_le (by omega)] at hcl
                rw [E0.out, ← HVM.out]
                refine wid_yes HXX.out.symm HYY.out.symm ?_
                rw [HVM.out]; exact hcl
              go_wp2_with (first
                | (refine wl_loadC rfl _ rfl s3 rfl V2 M2' Z3.out hV2 hM2 ?_)
                | (refine wl_storeC rfl _ _ rfl w.heap.size V2 M2' rfl rfl _ Z0.out (cv_size _ _ hUl hNl) hV2 hM2 _ rfl ?_))
              go_roundw
              case rel => exact ⟨k + 1, by omega, by go_num, by rw [E1.out]; exact setRow_heap _ _ _ _ _ _ Z0.out, (setRow_other _ _ _ _ (by omega)).trans Z1.out, (setRow_other _ _ _ _ (by omega)).trans Z2.out, below_setRow HB.out (Nat.le_refl _) _⟩
              case measure => simp [intOf]; omega
    · have hlt' : ¬ (k : Int) < 104 := by omega
      obtain rfl : k = 104 := by omega
      go_wp2_with (first
        | (refine wl_loadC rfl _ rfl w.heap.size rfl U N Z0.out hUl hNl ?_)
        | (refine wl_storeC rfl _ _ rfl (w.heap.size + 2) U N rfl rfl _ Z2.out rfl hUl hNl _ rfl ?_))
      try simp only [Exit.noGoto_ret]
      rw [HUN.out]
      refine retC (p := 6) rfl rfl (w.heap.size + 2) rfl U N hUl hNl (setRow_heap _ _ _ _ _ _ Z2.out) ⟨rfl, ?_⟩
      exact below_setRow HB.out (by omega) _
end Go.Proofs.Ytdibjhlckjjlfaa
namespace Go.Proofs.Ytdibjhlckjjlfaa
open Go Go.RowKit
set_option maxRecDepth 20000

/-! Slices whose elements are one cell each: numbers, floats, truths. -/
def StopV (p : Prop) : Prop := p
theorem of_stopV {p : Prop} (h : StopV p) : p := h
theorem add_formV (g off j : Nat) : (⟨g, off, none⟩ : Addr).add j = ⟨g, off + j, none⟩ := by unfold Addr.add; split <;> simp_all
/-- Cells, wherever they lie. -/
def VSl (w : World) (v : Value) (L : List Value) : Prop :=
  ∃ (o : Option Addr) (cap : Nat), v = .slice o L.length cap ∧ L.length ≤ cap ∧ cap ≤ maxLen ∧ (o = none → cap = 0) ∧ ∀ (i : Nat) (hi : i < L.length), ∃ g off cur t fr, o = some ⟨g, off, none⟩ ∧ w.heap[g]? = some (.cells cur t fr) ∧ cur[off + i]? = some L[i]
theorem VSl.of_heap {w w' : World} {v : Value} {L : List Value} (h : VSl w v L) (hb : ∀ g o, w.heap[g]? = some o → v.ownBlock = some g → w'.heap[g]? = some o) : VSl w' v L := by
  obtain ⟨o, cap, rfl, h1, h2, h3, h4⟩ := h
  refine ⟨o, cap, rfl, h1, h2, h3, fun i hi => ?_⟩
  obtain ⟨g, off, cur, t, fr, rfl, h5, h6⟩ := h4 i hi
  exact ⟨g, off, cur, t, fr, rfl, hb _ _ h5 rfl, h6⟩
theorem VSl.below {w w' : World} {v : Value} {L : List Value} (h : VSl w v L) (hb : Below w.heap.size w w') : VSl w' v L :=
  h.of_heap fun g _ hg _ => (hb.block g (Array.getElem?_eq_some_iff.1 hg).1).trans hg
theorem VSl.alloc {w : World} {v : Value} {L : List Value} (h : VSl w v L) (x : Obj) : VSl (w.alloc x) v L :=
  h.of_heap fun _ _ hg _ => heap_past _ _ _ _ hg
theorem VSl.slice {w : World} {v : Value} {L : List Value} (h : VSl w v L) : ∃ o cap, v = .slice o L.length cap ∧ L.length ≤ cap ∧ cap ≤ maxLen := by
  obtain ⟨o, cap, rfl, h1, h2, _⟩ := h
  exact ⟨o, cap, rfl, h1, h2⟩
theorem VSl.len {w : World} {o : Option Addr} {n cap : Nat} {L : List Value} (h : VSl w (.slice o n cap) L) : n = L.length := by
  obtain ⟨o', cap', h1, _⟩ := h
  simp only [Value.slice.injEq] at h1
  exact h1.2.1
theorem VSl.at {w : World} {o : Option Addr} {n cap : Nat} {L : List Value} (h : VSl w (.slice o n cap) L) (k : Nat) (hk : k < n) :
    ∃ g off c, o = some ⟨g, off, none⟩ ∧ w.cell? ⟨g, off + k, none⟩ = some c ∧ L[k]? = some c := by
  obtain ⟨o', cap', h1, _, _, _, h3⟩ := h
  simp only [Value.slice.injEq] at h1
  obtain ⟨rfl, rfl, rfl⟩ := h1
  obtain ⟨g, off, cur, t, fr, h4, h5, h6⟩ := h3 k hk
  exact ⟨g, off, L[k], h4, by rw [cell_of_row _ _ _ _ _ _ h5]; exact h6, List.getElem?_eq_getElem hk⟩
theorem VSl.row {w : World} {o : Option Addr} {n cap : Nat} {L : List Value} (h : VSl w (.slice o n cap) L) (k : Nat) (hk : k < n) :
    ∃ g off c, o = some ⟨g, off, none⟩ ∧ (∃ cur t fr, w.heap[g]? = some (.cells cur t fr) ∧ cur[off + k]? = some c) ∧ L[k]? = some c := by
  obtain ⟨o', cap', h1, _, _, _, h3⟩ := h
  simp only [Value.slice.injEq] at h1
  obtain ⟨rfl, rfl, rfl⟩ := h1
  obtain ⟨g, off, cur, t, fr, h4, h5, h6⟩ := h3 k hk
  exact ⟨g, off, L[k], h4, ⟨cur, t, fr, h5, h6⟩, List.getElem?_eq_getElem hk⟩
theorem vsl_nil (w : World) : VSl w (.slice none 0 0) [] := ⟨none, 0, rfl, Nat.le_refl _, Nat.zero_le _, fun _ => rfl, fun i hi => absurd hi (by simp)⟩

/-- Cells of one's own. -/
def VOwn (ty : TypeId) (B : Nat) (w : World) (v : Value) (L : List Value) : Prop := w.ownsRow B ty 1 v L.length L
theorem VOwn.sl {ty : TypeId} {B : Nat} {w : World} {v : Value} {L : List Value} (h : VOwn ty B w v L) : VSl w v L := by
  obtain ⟨h1, ⟨rfl, h2⟩ | ⟨g, cap, cur, rfl, hB, hcur, h5, h6, _, h4⟩⟩ := h
  · exact ⟨none, 0, by rw [h2], by omega, Nat.zero_le _, fun _ => rfl, fun i hi => by omega⟩
  · refine ⟨_, cap, rfl, h5, h6, (fun e => by cases e), fun i hi => ⟨g, 0, cur, _, _, rfl, hcur, ?_⟩⟩
    have h7 := congrArg (·[i]?) h4
    rw [Nat.mul_one, List.getElem?_take_of_lt hi, List.getElem?_eq_getElem hi] at h7
    rw [Nat.zero_add]
    simpa using h7
theorem VOwn.nil (ty B : Nat) (w : World) : VOwn ty B w (.slice none 0 0) [] := World.ownsRow_nil _ _ _ _
theorem VOwn.below {ty B : Nat} {w w' : World} {v : Value} {L : List Value} (h : VOwn ty B w v L) (hb : Below w.heap.size w w') : VOwn ty B w' v L := by
  obtain ⟨h1, h2 | ⟨g, cap, cur, rfl, hB, hcur, h3⟩⟩ := h
  · exact ⟨h1, .inl h2⟩
  · exact ⟨h1, .inr ⟨g, cap, cur, rfl, hB, (hb.block g (Array.getElem?_eq_some_iff.1 hcur).1).trans hcur, h3⟩⟩
theorem VOwn.grown {ty B : Nat} {w w' : World} {v : Value} {L : List Value} (h : VOwn ty B w v L) {row : Option Nat} (hg : w.grownBy w' row) (hne : ∀ g, v.ownBlock = some g → row ≠ some g) : VOwn ty B w' v L := by
  obtain ⟨h1, h2 | ⟨g, cap, cur, rfl, hB, hcur, h3⟩⟩ := h
  · exact ⟨h1, .inl h2⟩
  · exact ⟨h1, .inr ⟨g, cap, cur, rfl, hB, (hg.block g (Array.getElem?_eq_some_iff.1 hcur).1 fun e => hne g rfl e.symm).trans hcur, h3⟩⟩
theorem VOwn.ge {ty B : Nat} {w : World} {v : Value} {L : List Value} (h : VOwn ty B w v L) : ∀ g, v.ownBlock = some g → B ≤ g ∧ g < w.heap.size := fun g hg => World.ownsRow.lt h g hg
theorem VOwn.set {ty B : Nat} {w : World} {g n cap : Nat} {L : List Value} (h : VOwn ty B w (.slice (some ⟨g, 0, none⟩) n cap) L) (k : Nat) (u : Value) : VOwn ty B (w.setCell ⟨g, k, none⟩ u) (.slice (some ⟨g, 0, none⟩) n cap) (L.set k u) := by
  have hn := h.sl.len
  subst hn
  have := (World.ownsRow.stored h k u).1
  unfold VOwn
  rw [List.length_set]
  exact this
theorem VOwn.cell {ty B : Nat} {w : World} {g n cap : Nat} {L : List Value} (h : VOwn ty B w (.slice (some ⟨g, 0, none⟩) n cap) L) (k : Nat) (hk : k < n) : ∃ c, w.cell? ⟨g, k, none⟩ = some c ∧ L[k]? = some c ∧ w.frozen? ⟨g, k, none⟩ = false := by
  have hn := h.sl.len
  subst hn
  obtain ⟨g', off, c, e, h1, h2⟩ := h.sl.at k hk
  simp only [Option.some.injEq, Addr.mk.injEq, and_true] at e
  obtain ⟨rfl, rfl⟩ := e
  rw [Nat.zero_add] at h1
  obtain ⟨_, ⟨e, _⟩ | ⟨g', cap', cur, e, hB, hcur, _⟩⟩ := h
  · cases e
  · simp only [Value.slice.injEq, Option.some.injEq, Addr.mk.injEq, and_true] at e
    obtain ⟨⟨rfl, _⟩, _⟩ := e
    exact ⟨c, h1, h2, by simp [World.frozen?, hcur]⟩

/-- What is asked of an element's type. -/
structure Sc (ty sl : TypeId) (z : Value) : Prop where
  hs : Try.prog.underlying sl = some (.slice ty)
  info : ∃ i b, Try.prog.info? ty = some i ∧ i.zero = some z ∧ i.size = 1 ∧ i.bytes = b ∧ 1 ≤ b ∧ b ≤ 8
  hz : z.cells = #[z]
theorem info_of {ty : TypeId} {z : Value} {b : Nat} (h : (Try.prog.info? ty).map (fun i => (i.zero, i.size, i.bytes)) = some (some z, 1, b)) (h1 : 1 ≤ b) (h8 : b ≤ 8) : ∃ i b, Try.prog.info? ty = some i ∧ i.zero = some z ∧ i.size = 1 ∧ i.bytes = b ∧ 1 ≤ b ∧ b ≤ 8 := by
  cases hi : Try.prog.info? ty with
  | none => rw [hi] at h; simp at h
  | some i =>
    rw [hi] at h
    simp only [Option.map_some, Option.some.injEq, Prod.mk.injEq] at h
    exact ⟨i, b, rfl, h.1, h.2.1, h.2.2, h1, h8⟩
theorem scI : Sc 3 24 (.int .i64 0) := ⟨Try.underlying24, info_of (b := 8) (by kernel_rfl) (by decide) (by decide), rfl⟩
/-- No element. -/
theorem wl_build0V {ty sl : TypeId} {z : Value} (S : Sc ty sl z) {ops : Array Oper} {rest : List Oper} {o : Oper} {a : Act} {w : World} {Q : Exit → Act → World → Prop} (hg : o.guard = none) (ho : o.op = .buildSlice sl 0 #[])
    (h : wpList Try.prog ops Q rest (a.put o.dst (.slice (some ⟨w.heap.size, 0, none⟩) 0 0)) (w.alloc (.cells #[] ty))) : wpList Try.prog ops Q (o :: rest) a w := by
  obtain ⟨ie, b, hie, hz, hs, _⟩ := S.info
  refine wpList_plain hg fun _ hK => ?_
  unfold Oper.wp execOp
  have hrun : (Instr.buildSlice sl 0 #[]).run Try.prog w = .ok (.slice (some ⟨w.heap.size, 0, none⟩) 0 0) (w.alloc (.cells #[] ty)) := by
    have h0 : Array.range 0 = #[] := Array.eq_empty_of_size_eq_zero (by simp)
    simp [Instr.buildSlice, run_underlying S.hs, sizeOf, typeInfo, hie, Instr.fill, newRow, h0]
  simp only [ho, Sem.run_bind, List.map_toArray, List.map_nil, hrun, Result.andThen_ok]
  exact hK _ _ h
theorem vown0 (w : World) (ty : TypeId) : VOwn ty w.heap.size (w.alloc (.cells #[] ty)) (.slice (some ⟨w.heap.size, 0, none⟩) 0 0) [] := ⟨by simp, .inr ⟨_, 0, #[], rfl, Nat.le_refl _, heap_new _ _ _ rfl, Nat.le_refl _, Nat.zero_le _, by simp, by simp⟩⟩
/-- One element. -/
theorem wl_build1V {ty sl : TypeId} {z : Value} (S : Sc ty sl z) {ops : Array Oper} {rest : List Oper} {o : Oper} {a : Act} {w : World} {Q : Exit → Act → World → Prop} (hg : o.guard = none) (x : Operand) (ho : o.op = .buildSlice sl 1 #[(0, x)]) (u : Value) (hu : u.cells = #[u]) (hx : a.eval x = u)
    (h : wpList Try.prog ops Q rest (a.put o.dst (.slice (some ⟨w.heap.size, 0, none⟩) 1 1)) (w.alloc (.cells #[u] ty))) : wpList Try.prog ops Q (o :: rest) a w := by
  obtain ⟨ie, b, hie, hz, hs, hb, hb1, hb8⟩ := S.info
  refine wpList_buildSlice hg sl ty 1 _ ho #[u] ie z S.hs hie hz (by rw [hs]; decide) (by rw [hs]; decide) ?_ h
  simp only [List.map_toArray, List.map_cons, List.map_nil, hx, Instr.fill, hs, Nat.zero_mul, hu]
  rw [if_neg (by simp)]
  congr 1
  exact gfold_all _ _ (by simp)
/-- One element appended to a row of one's own. -/
theorem wl_app1V {ty sl : TypeId} {z : Value} (S : Sc ty sl z) {ops : Array Oper} {rest : List Oper} {o : Oper} {a : Act} {w : World} {Q : Exit → Act → World → Prop} (hgd : o.guard = none) (s x : Operand) (ho : o.op = .call { callee := .builtin .append, args := #[s, x], argTypes := #[sl, sl] })
    (B : Nat) (v : Value) (L : List Value) (u : Value) (hu : u.oneCell' = true) (hs : a.eval s = v) (hb : VOwn ty B w v L) (g cap : Nat) (hx : a.eval x = .slice (some ⟨g, 0, none⟩) 1 cap) (hg : w.heap[g]? = some (.cells #[u] ty (0, 0))) (hn : L.length ≤ 1000000) (hB : B ≤ w.heap.size)
    (h : ∀ v' w', VOwn ty B w' v' (L ++ [u]) → w.grownBy w' v.ownBlock → (v'.ownBlock = v.ownBlock ∨ v'.ownBlock = some w.heap.size) → wpList Try.prog ops Q rest (a.put o.dst v') w') : wpList Try.prog ops Q (o :: rest) a w := by
  obtain ⟨i, b, hi, hz, h1, h2, h3, h4⟩ := S.info
  refine wpList_append_own_at _ hgd s x sl ho B ty i z 1 b S.hs hi hz h1 h2 (by rw [S.hz]; rfl) (by decide) v _ _ hs hb ⟨g, 0, none⟩ 1 cap [u] hx rfl (fun j y hy => ?_) (fun y hy => ?_) (by unfold maxLen; omega) ?_ hB ?_
  · rw [add_formV, cell_of_row w g _ _ _ _ hg, ← hy, Nat.zero_add]
    simp
  · obtain rfl : y = u := by simpa using hy
    exact hu
  · exact Nat.le_trans (Nat.mul_le_mul (show L.length + 1 ≤ 1000001 by omega) h4) (by decide)
  · intro v' w' h5 h6 _ h7
    refine h v' w' ?_ h6 h7
    unfold VOwn
    rw [List.length_append]; exact h5
end Go.Proofs.Ytdibjhlckjjlfaa
namespace Go.Proofs.Ytdibjhlckjjlfaa
open Go Go.RowKit
set_option maxRecDepth 20000

theorem wl_min7 {ops : Array Oper} {rest : List Oper} {o : Oper} {a : Act} {w : World} {Q : Exit → Act → World → Prop} (hgd : o.guard = none) (x y : Operand) (ho : o.op = .call { callee := .builtin .min, args := #[x, y], argTypes := #[3, 3] })
    (p q r : Int) (hx : a.eval x = .int .i64 p) (hy : a.eval y = .int .i64 q) (hr : r = min p q) (h : wpList Try.prog ops Q rest (a.put o.dst (.int .i64 r)) w) : wpList Try.prog ops Q (o :: rest) a w := by
  obtain ⟨dst, op, ty, pos, after, guard⟩ := o
  subst ho
  have hr : (execOp a.eval ⟨dst, .call { callee := .builtin .min, args := #[x, y], argTypes := #[3, 3] }, ty, pos, after, guard⟩).run Try.prog w = .ok (.value (.int .i64 r)) w := by
    subst hr
    by_cases h1 : p ≤ q
    · rw [show min p q = p by omega]
      unfold execOp
      simp [resolve, invoke, builtin, hx, hy, Builtin.min_, Builtin.min2]
      all_goals omega
    · rw [show min p q = q by omega]
      unfold execOp
      simp [resolve, invoke, builtin, hx, hy, Builtin.min_, Builtin.min2]
      all_goals omega
  refine wpList_plain hgd fun K hK => ?_
  unfold Oper.wp
  rw [hr]
  exact hK _ _ h

theorem GSl.take7 {α : Type} {E : El} {enc : α → Array Value} {w : World} {o : Option Addr} {n cap : Nat} {C : List α} (h : GSl E enc w (.slice o n cap) C) {k : Nat} (hk : k ≤ n) : GSl E enc w (.slice o k cap) (C.take k) := by
  obtain ⟨o', cap', h1, h2, h3, h4⟩ := h
  simp only [Value.slice.injEq] at h1
  obtain ⟨rfl, rfl, rfl⟩ := h1
  have hl : (C.take k).length = k := by rw [List.length_take]; omega
  refine ⟨o, cap, by rw [hl], by rw [hl]; omega, h3, fun i hi => ?_⟩
  rw [hl] at hi
  obtain ⟨g, off, cur, t, fr, e1, e2, e3⟩ := h4 i (by omega)
  refine ⟨g, off, cur, t, fr, e1, e2, fun j hj => ?_⟩
  rw [List.getElem_take]
  exact e3 j hj
end Go.Proofs.Ytdibjhlckjjlfaa
namespace Go.Proofs.Ytdibjhlckjjlfaa
open Go Go.RowKit
set_option maxRecDepth 20000

/-! Needs: the places of the rules ahead that have a header together with one; the code's and the reference's. -/
def pickK (l : List RuleM) (c : List Int × List Int) (k : Nat) : List Nat := match l[k]? with
  | some x => if meets x.cube.1 x.cube.2 c.1 c.2 then [k] else []
  | none => []
def needK (l : List RuleM) (c : List Int × List Int) : Nat → List Nat
  | 0 => []
  | k + 1 => needK l c k ++ pickK l c k
theorem need_yes {l : List RuleM} {c : List Int × List Int} {k : Nat} {x : RuleM} (h : l[k]? = some x) (hm : meets x.cube.1 x.cube.2 c.1 c.2 = true) : needK l c (k + 1) = needK l c k ++ [k] := by
  rw [needK]
  unfold pickK
  rw [h]
  simp [hm]
theorem need_no {l : List RuleM} {c : List Int × List Int} {k : Nat} {x : RuleM} (h : l[k]? = some x) (hm : meets x.cube.1 x.cube.2 c.1 c.2 = false) : needK l c (k + 1) = needK l c k := by
  rw [needK]
  unfold pickK
  rw [h]
  simp [hm]
theorem pick_len (l : List RuleM) (c : List Int × List Int) (k : Nat) : (pickK l c k).length ≤ 1 := by
  unfold pickK
  split
  · split <;> simp
  · simp
theorem need_len (l : List RuleM) (c : List Int × List Int) : ∀ k, (needK l c k).length ≤ k
  | 0 => Nat.le_refl _
  | k + 1 => by
    have := need_len l c k
    have := pick_len l c k
    rw [needK, List.length_append]
    omega
theorem need_lt {l : List RuleM} {c : List Int × List Int} : ∀ {k j : Nat}, j ∈ needK l c k → j < k
  | 0, j, h => absurd h (List.not_mem_nil)
  | k + 1, j, h => by
    rw [needK, List.mem_append] at h
    rcases h with h | h
    · have := need_lt h; omega
    · unfold pickK at h
      split at h
      · split at h
        · simp at h; omega
        · simp at h
      · simp at h
/-- The cubes at these places are those in the way. -/
theorem need_way {l : List RuleM} {c : List Int × List Int} : ∀ {k : Nat}, k ≤ l.length → (needK l c k).filterMap (fun j => (l[j]?).map (·.cube)) = wayA (cubsA (l.take k)) c
  | 0, _ => by simp [needK, wayA, cubsA]
  | k + 1, hk => by
    have ih := need_way (l := l) (c := c) (k := k) (by omega)
    have hx : l[k]? = some l[k] := List.getElem?_eq_getElem (by omega)
    rw [needK, List.filterMap_append, ih]
    unfold wayA cubsA
    rw [List.take_add_one, hx, List.map_append, List.filter_append]
    congr 1
    unfold pickK
    rw [hx]
    cases hm : meets l[k].cube.1 l[k].cube.2 c.1 c.2 with
    | true => simp [hm, hx]
    | false => simp [hm]
def nv15 (L : List Nat) : List Value := L.map fun k : Nat => .int .i64 (k : Int)
theorem nv_snoc (L : List Nat) (k : Nat) : nv15 L ++ [.int .i64 (k : Int)] = nv15 (L ++ [k]) := by unfold nv15; rw [List.map_append]; rfl
theorem nv_len (L : List Nat) : (nv15 L).length = L.length := by unfold nv15; rw [List.length_map]
theorem slice_rules15 {o : Option Addr} {n0 cap : Nat} {w : World} {l : List RuleM} (h : RulesAt w (.slice o n0 cap) l) (n : Nat) (hn : n ≤ n0) (hc : n0 ≤ cap) (W : World) :
    (Instr.sliceAt 22 (.slice o n0 cap) none (some (.int .i64 (n : Int))) none).run Try.prog W = .ok (.slice o n cap) W := by
  rcases Nat.eq_zero_or_pos n0 with h0 | h0
  · obtain rfl : n = 0 := by omega
    cases o with
    | none => simp [go_sem, Try.underlying22]
    | some a => simp [go_sem, Try.underlying22]
  · obtain ⟨g, off, _, _, _, _, rfl, _⟩ := h.at 0 h0
    simp [go_sem, Try.underlying22]
    omega
/-- A rule's cube in a row of rules. -/
theorem cube_in {cur : Array Value} {off k : Nat} {r : RuleM} (hr : okR8 r) (hc : ∀ j, j < 28 → cur[off + k * 28 + j]? = (ruleV r)[j]?) : ∀ j, j < 26 → cur[off + k * 28 + 1 + j]? = (cv r.cube.1 r.cube.2)[j]? := fun j hj => by
  have h3 := hc (1 + j) (by omega)
  rw [(rule_at hr).2.1 j hj] at h3
  rw [← h3]
  congr 1
  omega
theorem needs_no (l : List RuleM) (vl : Value) (i : Int) (hi : ¬ (0 ≤ i ∧ i < l.length)) (w : World) (hl : RulesAt w vl l) :
    Calls Try.prog 9 #[vl, .int .i64 i] w fun e w' => e = .returned (.slice none 0 0) ∧ Below w.heap.size w w' := by
  obtain ⟨o, cap, rfl, hc1, hc2⟩ := GSl.slice hl
  obtain ⟨n, hn0⟩ : ∃ n, n = l.length := ⟨_, rfl⟩
  rw [← hn0] at hl hc1 hi ⊢
  clear hl hn0
  unfold maxLen at hc2
  by_cases h0 : i < 0
  · clear hi
    go_enter Try.func9, Try.ntmps9
    go_wp2_with fail
    go_step3
    go_wp2_with fail
    simp only [Exit.noGoto_ret]
    go_ret
    exact ⟨rfl, Below.refl _ _⟩
  · have h1 : (n : Int) ≤ i := by omega
    clear hi
    go_enter Try.func9, Try.ntmps9
    go_wp2_with fail
    go_step3
    go_wp2_with fail
    simp only [Exit.noGoto_ret]
    go_ret
    exact ⟨rfl, Below.refl _ _⟩
set_option maxHeartbeats 8000000 in
theorem needs_yes (l : List RuleM) (hl0 : ∀ r ∈ l, okR8 r) (hn1 : l.length ≤ 100000) (vl : Value) (p : Nat) (r : RuleM) (hp : l[p]? = some r) (w : World) (hl : RulesAt w vl l) :
    Calls Try.prog 9 #[vl, .int .i64 (p : Int)] w fun e w' => (∃ v, e = .returned v ∧ VOwn 3 w.heap.size w' v (nv15 (needK l r.cube p))) ∧ Below w.heap.size w w' := by
  have hr := hl0 r (List.mem_of_getElem? hp)
  obtain ⟨o, cap, rfl, hc1, hc2⟩ := GSl.slice hl
  obtain ⟨n, hn0⟩ : ∃ n, n = l.length := ⟨_, rfl⟩
  have hpn : p < n := by rw [hn0]; exact (List.getElem?_eq_some_iff.1 hp).1
  rw [← hn0] at hl hc1 hn1 ⊢
  have hsl : ∀ W, (Instr.sliceAt 22 (.slice o n cap) none (some (.int .i64 (p : Int))) none).run Try.prog W = .ok (.slice o p cap) W := fun W => slice_rules15 hl p (by omega) hc1 W
  have HL : Hid (RulesAt w (.slice o n cap) l) := hl
  have HOK : Hid (∀ r ∈ l, okR8 r) := hl0
  have HR : Hid (okR8 r) := hr
  have HME : Hid (∀ (x : RuleM) W, okR8 x → Calls Try.prog 21 #[.agg (cv x.cube.1 x.cube.2), .agg (cv r.cube.1 r.cube.2)] W fun e w' => e = .returned (.bool (meets x.cube.1 x.cube.2 r.cube.1 r.cube.2)) ∧ Below W.heap.size W w') := fun x W hx => ameets_any _ _ _ _ hx.1 hx.2 hr.1 hr.2 W
  obtain ⟨g, off, cur, ty, fr, r', rfl, hg, hc, hxp⟩ := hl.at p hpn
  rw [hp] at hxp
  obtain rfl := Option.some.inj hxp
  have P1 : Hid (w.heap[g]? = some (.cells cur ty fr)) := hg
  have P2 : Hid (∀ j, j < 26 → cur[off + p * 28 + 1 + j]? = (cv r.cube.1 r.cube.2)[j]?) := cube_in hr hc
  unfold maxLen at hc2
  have hpn' : (p : Int) < (n : Int) := by omega
  have d1 : decide ((p : Int) < 0) = false := by simp
  have d2 : decide ((p : Int) ≥ (n : Int)) = false := by simp; omega
  have d3 : decide ((n : Int) ≤ (p : Int)) = false := by simp; omega
  have d4 : decide (n ≤ p) = false := by simp; omega
  clear hl hn0 hl0 hr hp hg hc hxp
  go_enter Try.func9, Try.ntmps9
  go_wp2_with fail
  go_step3
  go_wp2_with fail
  go_step3
  go_wp2_with fail
  go_loopw [5, 20] (fun out i wr => ∃ k : Nat, k ≤ p ∧ i = .int .i64 (k : Int) ∧ Hid (VOwn 3 w.heap.size wr out (nv15 (needK l r.cube k))) ∧ Hid (Below w.heap.size w wr)) (fun _ i _ => n - (intOf i).toNat)
  case atStart => exact ⟨0, Nat.zero_le _, rfl, VOwn.nil _ _ _, Below.refl _ _⟩
  case round =>
    obtain ⟨k, hk, rfl, HO, HB⟩ := hrel
    by_cases hlt : k < p
    · have hlt' : (k : Int) < (p : Int) := by omega
      obtain ⟨g2, off2, cur2, ty2, fr2, x, e2, hg2, hc2', hxk⟩ := (GSl.below HL.out HB.out).at k (by omega)
      cases e2
      have hx : okR8 x := HOK.out x (List.mem_of_getElem? hxk)
      have HX : Hid (okR8 x) := hx
      have HXK : Hid (l[k]? = some x) := hxk
      have hsz := ruleV_size hx
      have K1 : Hid (wr.heap[g]? = some (.cells cur2 ty2 fr2)) := hg2
      have H1 : Hid (∀ j, j < 28 → cur2[off + k * 28 + j]? = (ruleV x)[j]?) := hc2'
      have BN : Hid (Below w.heap.size w (wr.alloc (.cells (ruleV x) 37))) := HB.out.alloc HB.out.size _
      have KN : Hid ((wr.alloc (.cells (ruleV x) 37)).heap[wr.heap.size]? = some (.cells (ruleV x) 37 (0, 0))) := heap_new _ _ _ rfl
      have PN : Hid ((wr.alloc (.cells (ruleV x) 37)).heap[g]? = some (.cells cur ty fr)) := (BN.out.block g (Array.getElem?_eq_some_iff.1 P1.out).1).trans P1.out
      have ON : Hid (VOwn 3 w.heap.size (wr.alloc (.cells (ruleV x) 37)) u5 (nv15 (needK l r.cube k))) := HO.out.below ((Below.refl _ _).alloc (Nat.le_refl _) _)
      obtain ⟨W, hW⟩ : ∃ W, W = wr.alloc (.cells (ruleV x) 37) := ⟨_, rfl⟩
      clear hg2 hc2' hxk hx HO
      go_wp2_with (first
        | (refine wl_loadE (E := RuleE) RuleOk rfl _ rfl g (off + k * 28) rfl cur2 ty2 fr2 (ruleV x) hsz K1.out H1.out ?_)
        | (refine wl_storeE (E := RuleE) RuleOk rfl _ _ rfl wr.heap.size (ruleV x) (rule_fits HX.out) rfl rfl _ (heap_new _ _ _ rfl) rfl _ (setRow_new _ _ _ _ _ rfl) ?_))
      simp only [Act.put]
      rw [← hW] at BN KN PN ON ⊢
      clear hW
      have ne1 := Later.ne W
      refine wp_region_later (by kernel_rfl) (by kernel_rfl) ?_
      go_big_quiet_step (fail)
      refine qlCw rfl _ rfl wr.heap.size 1 rfl _ _ _ x.cube.1 x.cube.2 HX.out.1.1 HX.out.2.1 (later_block KN.out) (rule_at HX.out).2.1 ?_
      simp only [Act.put, List.setIfInBounds_toArray, List.set_cons_succ, List.set_cons_zero]
      go_big_quiet_step (fail)
      go_big_quiet_step (fail)
      go_big_quiet_step (fail)
      go_big_quiet_step (fail)
      refine qlCw rfl _ rfl g (off + p * 28 + 1) rfl cur ty fr r.cube.1 r.cube.2 HR.out.1.1 HR.out.2.1 (later_block PN.out) P2.out ?_
      simp only [Act.put, List.setIfInBounds_toArray, List.set_cons_succ, List.set_cons_zero]
      go_big_quiet_want; go_big_quiet_op
      refine ⟨_, fun u => Calls.later_of (HME.out x u.world HX.out), ?_⟩
      go_big_quiet_on
      go_big_quiet_step (fail)
      refine wpQuiet_nil ?_
      rintro w1 ⟨v5, rfl⟩
      have hb1 := v5.below
      obtain ⟨w1, hw1⟩ : ∃ w1, w1 = v5.world := ⟨_, rfl⟩
      rw [← hw1] at hb1 ⊢
      have B1 : Hid (Below w.heap.size w w1) := BN.out.trans (hb1.mono BN.out.size)
      have O1 : Hid (VOwn 3 w.heap.size w1 u5 (nv15 (needK l r.cube k))) := ON.out.below hb1
      clear ne1 hb1 hw1 v5 BN KN PN ON K1 H1 HB
      cases hm : meets x.cube.1 x.cube.2 r.cube.1 r.cube.2 with
      | false =>
        have E1 : Hid (needK l r.cube (k + 1) = needK l r.cube k) := need_no HXK.out hm
        clear hm
        go_wp2_with fail
        go_roundw
        case rel => exact ⟨k + 1, by omega, by go_num, by rw [E1.out]; exact O1, B1⟩
        case measure => simp [intOf]; omega
      | true =>
        have E1 : Hid (needK l r.cube (k + 1) = needK l r.cube k ++ [k]) := need_yes HXK.out hm
        have hlen : Hid ((nv15 (needK l r.cube k)).length ≤ 1000000) := by
          show _ ≤ _
          rw [nv_len]
          have := need_len l r.cube k
          omega
        clear hm
        obtain ⟨R, hR⟩ : ∃ R, R = needK l r.cube k := ⟨_, rfl⟩
        rw [← hR] at O1 E1 hlen
        clear hR
        have OA : Hid (VOwn 3 w.heap.size (w1.alloc (.cells #[Value.int .i64 (k : Int)] 3)) u5 (nv15 R)) := O1.out.below ((Below.refl _ _).alloc (Nat.le_refl _) _)
        have BA : Hid (Below w.heap.size w (w1.alloc (.cells #[Value.int .i64 (k : Int)] 3))) := B1.out.alloc B1.out.size _
        go_wp2_with (first
          | (refine wl_build1V scI rfl _ rfl (.int .i64 (k : Int)) rfl rfl ?_)
          | (at_builtin; refine of_stopV ?_))
        unfold StopV
        refine wl_app1V scI rfl _ _ rfl w.heap.size u5 (nv15 R) (.int .i64 (k : Int)) rfl rfl OA.out w1.heap.size 1 rfl (heap_new _ _ _ rfl) hlen.out (BA.out.size) ?_
        intro v' w3 hown3 hgr3 hv'
        have B3 : Hid (Below w.heap.size w w3) := BA.out.grown hgr3 BA.out.size fun j hj => (OA.out.ge j hj).1
        have O3 : Hid (VOwn 3 w.heap.size w3 v' (nv15 (R ++ [k]))) := by
          show VOwn _ _ _ _ _
          rw [← nv_snoc]; exact hown3
        clear hown3 hgr3 hv'
        simp only [Act.put, List.setIfInBounds_toArray, List.set_cons_succ, List.set_cons_zero]
        go_wp2_with fail
        go_roundw
        case rel => exact ⟨k + 1, by omega, by go_num, by rw [E1.out]; exact O3, B3⟩
        case measure => simp [intOf]; omega
    · have hlt' : ¬ (k : Int) < (p : Int) := by omega
      obtain rfl : k = p := by omega
      go_wp2_with fail
      try simp only [Exit.noGoto_ret]
      go_ret
      exact ⟨⟨_, rfl, HO.out⟩, HB.out⟩
end Go.Proofs.Ytdibjhlckjjlfaa
namespace Go.Proofs.Ytdibjhlckjjlfaa
open Go Go.RowKit
set_option maxRecDepth 20000

end Go.Proofs.Ytdibjhlckjjlfaa
namespace Go.Proofs.Ytdibjhlckjjlfaa
open Go Go.RowKit
set_option maxRecDepth 20000

/-- One cube appended to one's own row of them, and where the new row lies. -/
theorem wl_append1 {ops : Array Oper} {rest : List Oper} {o : Oper} {a : Act} {w : World} {Q : Exit → Act → World → Prop} (hgd : o.guard = none) (s x : Operand) (ho : o.op = .call { callee := .builtin .append, args := #[s, x], argTypes := #[47, 47] })
    (base : Nat) (v : Value) (C : List (List Int × List Int)) (V M : List Int) (hV : V.length = 13) (hM : M.length = 13) (hs : a.eval s = v) (hown : w.ownsRow base 30 26 v C.length (ccells C)) (g cap : Nat) (hx : a.eval x = .slice (some ⟨g, 0, none⟩) 1 cap) (hg : w.heap[g]? = some (.cells (cv V M) 30 (0, 0)))
    (hn : C.length ≤ 1000000) (hbase : base ≤ w.heap.size)
    (h : ∀ v' w', w'.ownsRow base 30 26 v' (C ++ [(V, M)]).length (ccells (C ++ [(V, M)])) → w.grownBy w' v.ownBlock → (v'.ownBlock = v.ownBlock ∨ v'.ownBlock = some w.heap.size) → wpList Try.prog ops Q rest (a.put o.dst v') w') : wpList Try.prog ops Q (o :: rest) a w := by
  obtain ⟨i0, hi, hz0, hz1, hz2⟩ := infoC
  have hsz := cv_size V M hV hM
  refine wpList_append_own_at _ hgd s x 47 ho base 30 i0 (.agg zeroC) 26 26 Try.underlying47 hi hz0 hz1 hz2 rfl (by decide) v _ _ hs hown ⟨g, 0, none⟩ 1 cap (cv V M).toList hx (by simp [hsz]) (fun j y hy => ?_) (fun u hu => ?_) (by unfold maxLen; omega) (by omega) hbase ?_
  · have hadd : (⟨g, 0, none⟩ : Addr).add j = ⟨g, j, none⟩ := by unfold Addr.add; split <;> simp_all
    rw [hadd, cell_of_row w g j _ _ _ hg, ← hy]
    simp
  · exact (Array.all_eq_true_iff_forall_mem.1 (cv_one V M)) u (by simpa using hu)
  · intro v' w' h5 h6 _ h7
    refine h v' w' ?_ h6 h7
    rw [List.length_append, ccells_append, ccells_one]; exact h5

end Go.Proofs.Ytdibjhlckjjlfaa
