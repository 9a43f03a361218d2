import Derived.Test.YthddlchkbnmcaaaGreatDoorJ49
import Derived.Test.YthddlchkbnmcaaaGreatDoorJ42
import Derived.Test.YthddlchkbnmcaaaGreatDoorJ46
import Derived.Test.YthddlchkbnmcaaaGreatDoorJ7
namespace Go.Proofs.YthddlchkbnmcaaaGreatDoor
open Go Go.RowKit
set_option maxRecDepth 20000

theorem pq_len (x : Ent) : (pq8 x).length = manyN x := by unfold pq8 manyN; rw [List.length_map]
set_option maxHeartbeats 16000000 in
set_option maxRecDepth 100000 in
theorem rexpand_any (l : List Ent) (h320 : ∀ x ∈ l, ent32 x) (hn : l.length ≤ 100000) (m : Int) (vl : Value) (w : World) (hl : EntsAt w vl l) :
    Calls Tryz.prog 7 #[vl, .int .i64 m] w fun e w' => (∃ R, RowsOf l R ∧ ExpR w.heap.size w' R m e) ∧ Below w.heap.size w w' := by
  have RW : Hid (Calls Tryz.prog 17 #[vl] w fun e w' => (∃ v R, e = .returned v ∧ RowsOf l R ∧ w'.ownsRow w.heap.size 35 12 v R.length (gcells entV R)) ∧ Below w.heap.size w w') := (rrows_any l vl w hl hn).mono fun e w' ⟨⟨v, R, h1, h2, h3⟩, h4⟩ => ⟨⟨v, _, h1, rows_link h2, h3⟩, h4⟩
  have MN : Hid (∀ (x : Ent) W, Calls Tryz.prog 18 #[.agg (entV x)] W fun e w' => e = .returned (.int .i64 (manyN x : Nat)) ∧ Below W.heap.size W w') := rmany_any
  have CU : Hid (∀ (x : Ent) W, ent32 x → manyN x ≠ 0 → Calls Tryz.prog 19 #[.agg (entV x)] W fun e w' => (∃ v, e = .returned v ∧ w'.ownsRow W.heap.size 37 26 v (cubesT x).length (ccells (cubesT x))) ∧ Below W.heap.size W w') := fun x W h1 h2 => rcubes_all x h1 h2 W
  have H32 : Hid (∀ x ∈ l, ent32 x) := h320
  obtain ⟨mx, hmx⟩ : ∃ mx, mx = max m 0 := ⟨_, rfl⟩
  have HMX : Hid (mx = max m 0) := hmx
  obtain ⟨b, hb⟩ : ∃ b, b = bnd4 m := ⟨_, rfl⟩
  have HMN : Hid ((b : Int) = min mx 2048) := by show _ = _; rw [hb, bnd4_eq, hmx]
  have hb2 : b ≤ 2048 := by rw [hb]; exact bnd4_le m
  have HBE : Hid (b = bnd4 m) := hb
  clear h320 hl hmx hb
  go_enter Tryz.func7, Tryz.ntmps7
  go_wp2_with (first
    | (refine wl_maxI rfl _ _ rfl m 0 mx rfl rfl HMX.out ?_)
    | (refine wl_minI rfl _ _ rfl mx 2048 (b : Int) rfl rfl HMN.out ?_))
  refine RW.out.mono ?_
  rintro e w1 ⟨⟨vR, R, rfl, hR, hown⟩, hb1⟩
  have HR : Hid (RowsOf l R) := hR
  have OR1 : Hid ((w1.alloc (.cells #[] 39)).ownsRow w.heap.size 35 12 vR R.length (gcells entV R)) := hown.alloc _
  have B1 : Hid (Below w.heap.size w w1) := hb1
  obtain ⟨oR, cR, rfl⟩ := gown_slice hown
  obtain ⟨nR, hnR⟩ : ∃ n, n = R.length := ⟨_, rfl⟩
  have HNR : Hid (nR = R.length) := hnR
  rw [← hnR] at OR1 ⊢
  have hnR2 : nR ≤ 100000 := by rw [hnR, rowsOf_len hR]; exact hn
  clear hR hown hb1 RW hnR
  go_wp2_with (refine wl_build0R (E := RuleE) RuleOk rfl rfl ?_)
  go_loopw [7, 8] (fun v i wr => ∃ (k : Nat) (Q : List (CubeT × Int)), k ≤ nR ∧ i = .int .i64 (k : Int) ∧ Hid (Q = pairsT (R.take k)) ∧ Q.length ≤ b ∧ wr.ownsRow w.heap.size 39 28 v (rulesOf Q).length (gcells ruleV (rulesOf Q)) ∧ wr.ownsRow w.heap.size 35 12 (.slice oR nR cR) nR (gcells entV R) ∧ Below w.heap.size w wr) (fun _ i _ => nR - (intOf i).toNat)
  case atStart => exact ⟨0, [], Nat.zero_le _, rfl, rfl, Nat.zero_le _, own_base (own0R w1 _ _) B1.out.size, OR1.out, B1.out.alloc B1.out.size _⟩
  case round =>
    clear OR1 B1
    obtain ⟨k, Q, hk, rfl, HQ, hQb, ho, hr, hb⟩ := hrel
    have HO : Hid (wr.ownsRow w.heap.size 39 28 u7 (rulesOf Q).length (gcells ruleV (rulesOf Q))) := ho
    have OR : Hid (wr.ownsRow w.heap.size 35 12 (.slice oR nR cR) nR (gcells entV R)) := hr
    have HB : Hid (Below w.heap.size w wr) := hb
    obtain ⟨oQ, cQ, rfl⟩ := gown_slice ho
    obtain ⟨nQ, hnQ⟩ : ∃ n, n = (rulesOf Q).length := ⟨_, rfl⟩
    have HNQ : Hid (nQ = Q.length) := by show _ = _; rw [hnQ, rulesOf_len]
    rw [← hnQ] at HO ⊢
    have hnQb : nQ ≤ b := by rw [HNQ.out]; exact hQb
    clear ho hr hb hnQ
    by_cases hlt : k < nR
    · have hlt' : (k : Int) < (nR : Int) := by omega
      have hsl : EntsAt wr (.slice oR nR cR) R := by
        have := OR.out
        rw [HNR.out] at this ⊢
        exact gsl_of (E := EntE) this fun _ _ => rfl
      obtain ⟨g, off, cur, ty, fr, x, rfl, hg, hc, hxk⟩ := hsl.at k hlt
      have K1 : Hid (wr.heap[g]? = some (.cells cur ty fr)) := hg
      have H1 : Hid (∀ j, j < 12 → cur[off + k * 12 + j]? = (entV x)[j]?) := hc
      have HX : Hid (R[k]? = some x) := hxk
      have HX2 : Hid (ent32 x) := H32.out x ((HR.out.mem x).1 (List.mem_of_getElem? hxk))
      have HLT : Hid (k < nR) := hlt
      have PT : Hid (pairsT (R.take (k + 1)) = Q ++ pq8 x) := by show _ = _; rw [pairs_take hxk, HQ.out]
      have hmx := many_le x
      have MX : Hid (∀ W, Calls Tryz.prog 18 #[.agg (entV x)] W fun e w' => e = .returned (.int .i64 (manyN x : Nat)) ∧ Below W.heap.size W w') := MN.out x
      obtain ⟨mn, hmn⟩ : ∃ n, n = manyN x := ⟨_, rfl⟩
      rw [← hmn] at hmx MX
      have HMM : Hid (mn = manyN x) := hmn
      clear hg hc hxk hsl hlt hmn
      go_wp2_with (refine wl_loadE (E := EntE) EntOk rfl _ rfl g (off + k * 12) rfl cur ty fr (entV x) rfl K1.out H1.out ?_)
      refine (MX.out _).mono ?_
      rintro e w2 ⟨rfl, hb2'⟩
      have K2 : Hid (w2.heap[g]? = some (.cells cur ty fr)) := (hb2'.block _ (Array.getElem?_eq_some_iff.1 K1.out).1).trans K1.out
      have B2 : Hid (Below w.heap.size w w2) := HB.out.trans (hb2'.mono HB.out.size)
      have O2 : Hid (w2.ownsRow w.heap.size 39 28 (.slice oQ nQ cQ) nQ (gcells ruleV (rulesOf Q))) := gown_below HO.out hb2'
      have R2 : Hid (w2.ownsRow w.heap.size 35 12 (.slice (some ⟨g, off, none⟩) nR cR) nR (gcells entV R)) := gown_below OR.out hb2'
      clear hb2' K1 HB HO OR
      by_cases hbig : b < nQ + mn
      · have hbig' : (b : Int) < (nQ : Int) + (mn : Int) := by omega
        have HERR : Hid (bnd4 m < (pairsT R).length) := by
          have h1 := pairs_le R (k + 1)
          rw [PT.out, List.length_append, pq_len] at h1
          have h2 := HNQ.out
          have h3 := HMM.out
          have h4 := HBE.out
          show _ < _
          omega
        clear hbig
        go_wp2_with fail
        go_ret2
        exact ⟨⟨R, HR.out, .inr ⟨rfl, HERR.out⟩⟩, B2.out⟩
      · have hbig' : ¬ (b : Int) < (nQ : Int) + (mn : Int) := by omega
        go_wp2_with (refine wl_loadE (E := EntE) EntOk rfl _ rfl g (off + k * 12) rfl cur ty fr (entV x) rfl K2.out H1.out ?_)
        refine (MX.out _).mono ?_
        rintro e w3 ⟨rfl, hb3'⟩
        have K3 : Hid (w3.heap[g]? = some (.cells cur ty fr)) := (hb3'.block _ (Array.getElem?_eq_some_iff.1 K2.out).1).trans K2.out
        have B3 : Hid (Below w.heap.size w w3) := B2.out.trans (hb3'.mono B2.out.size)
        have O3 : Hid (w3.ownsRow w.heap.size 39 28 (.slice oQ nQ cQ) nQ (gcells ruleV (rulesOf Q))) := gown_below O2.out hb3'
        have R3 : Hid (w3.ownsRow w.heap.size 35 12 (.slice (some ⟨g, off, none⟩) nR cR) nR (gcells entV R)) := gown_below R2.out hb3'
        clear hb3' K2 B2 O2 R2
        by_cases hz : mn = 0
        · have hz' : ((mn : Int) == 0) = true := by rw [hz]; rfl
          have HE : Hid (Q = pairsT (R.take (k + 1))) := by
            have h1 := pq_len x
            rw [← HMM.out, hz] at h1
            show _ = _
            rw [PT.out, List.eq_nil_of_length_eq_zero h1, List.append_nil]
          go_wp2_with fail
          go_roundw
          case rel =>
            have := HLT.out
            exact ⟨k + 1, Q, by omega, by go_num, HE.out, hQb, by rw [rulesOf_len, ← HNQ.out]; exact O3.out, R3.out, B3.out⟩
          case measure =>
            have := HLT.out
            simp [intOf]; omega
        · have hz' : ((mn : Int) == 0) = false := by simp; omega
          have HZ : Hid (manyN x ≠ 0) := by show _ ≠ _; rw [← HMM.out]; exact hz
          go_wp2_with (refine wl_loadE (E := EntE) EntOk rfl _ rfl g (off + k * 12) rfl cur ty fr (entV x) rfl K3.out H1.out ?_)
          refine (CU.out x _ HX2.out HZ.out).mono ?_
          rintro e w4 ⟨⟨vc, rfl, hoc⟩, hb4'⟩
          have B4 : Hid (Below w.heap.size w w4) := B3.out.trans (hb4'.mono B3.out.size)
          have O4 : Hid (w4.ownsRow w.heap.size 39 28 (.slice oQ nQ cQ) (rulesOf Q).length (gcells ruleV (rulesOf Q))) := by rw [rulesOf_len, ← HNQ.out]; exact gown_below O3.out hb4'
          have R4 : Hid (w4.ownsRow w.heap.size 35 12 (.slice (some ⟨g, off, none⟩) nR cR) nR (gcells entV R)) := gown_below R3.out hb4'
          have C4 : Hid (w4.ownsRow w.heap.size 37 26 vc (cubesT x).length (ccells (cubesT x))) := gown_base hoc B3.out.size
          obtain ⟨oc, cc, rfl⟩ := gown_slice hoc
          rw [show (cubesT x).length = mn from HMM.out.symm] at C4 ⊢
          clear hoc hb4' K3 B3 O3 R3 hz hz'
          go_wp2_with fail
          go_loopw [7, 10] (fun v i wr => ∃ (j : Nat) (P : List (CubeT × Int)), j ≤ mn ∧ i = .int .i64 (j : Int) ∧ Hid (P = Q ++ (pq8 x).take j) ∧ wr.ownsRow w.heap.size 39 28 v (rulesOf P).length (gcells ruleV (rulesOf P)) ∧ wr.ownsRow w.heap.size 35 12 (.slice (some ⟨g, off, none⟩) nR cR) nR (gcells entV R) ∧ wr.ownsRow w.heap.size 37 26 (.slice oc mn cc) mn (ccells (cubesT x)) ∧ Below w.heap.size w wr) (fun _ i _ => mn - (intOf i).toNat)
          case atStart => exact ⟨0, Q, Nat.zero_le _, rfl, by show _ = _; simp, O4.out, R4.out, C4.out, B4.out⟩
          case round =>
            clear O4 R4 C4 B4
            obtain ⟨j, P, hj, rfl, HPE, ho, hr, hcx, hbx⟩ := hrel
            have RX : Hid (wr.ownsRow w.heap.size 35 12 (.slice (some ⟨g, off, none⟩) nR cR) nR (gcells entV R)) := hr
            have CX : Hid (wr.ownsRow w.heap.size 37 26 (.slice oc mn cc) mn (ccells (cubesT x))) := hcx
            have BX : Hid (Below w.heap.size w wr) := hbx
            obtain ⟨oP, cP, rfl⟩ := gown_slice ho
            obtain ⟨nP, hnP⟩ : ∃ n, n = (rulesOf P).length := ⟨_, rfl⟩
            have HNP : Hid (nP = (rulesOf P).length) := hnP
            have HPL : Hid (nP = Q.length + j) := by
              have h1 := pq_len x
              have h2 := HMM.out
              show _ = _
              rw [hnP, rulesOf_len, HPE.out, List.length_append, List.length_take]
              omega
            have OX : Hid (wr.ownsRow w.heap.size 39 28 (.slice oP nP cP) (rulesOf P).length (gcells ruleV (rulesOf P))) := by rw [hnP]; exact ho
            rw [← hnP]
            clear ho hr hcx hbx hnP
            by_cases hjt : j < mn
            · have hjt' : (j : Int) < (mn : Int) := by omega
              have hsl : Sl wr (.slice oc mn cc) (cubesT x) := by
                have := CX.out
                rw [show mn = (cubesT x).length from HMM.out] at this ⊢
                exact sl_of this (cubes_byts x)
              obtain ⟨g2, off2, cur2, ty2, fr2, U, N, rfl, hg2, hc2', hcj, hU, hN⟩ := hsl.at j hjt
              have hse : EntsAt wr (.slice (some ⟨g, off, none⟩) nR cR) R := by
                have := RX.out
                rw [HNR.out] at this ⊢
                exact gsl_of (E := EntE) this fun _ _ => rfl
              obtain ⟨g', off', cur', ty', fr', x', e0, hg', hc', hxk'⟩ := hse.at k HLT.out
              simp only [Option.some.injEq, Addr.mk.injEq, and_true] at e0
              obtain ⟨rfl, rfl⟩ := e0
              obtain rfl : x = x' := Option.some.inj (HX.out.symm.trans hxk')
              have HCJ : Hid ((pq8 x)[j]? = some ((U, N), x.action)) := pq_at hcj
              have HG2 : Hid (wr.heap[g2]? = some (.cells cur2 ty2 fr2) ∧ (∀ q, q < 26 → cur2[off2 + j * 26 + q]? = (cv U N)[q]?) ∧ Byt U ∧ Byt N) := ⟨hg2, hc2', hU, hN⟩
              have HG1 : Hid (wr.heap[g]? = some (.cells cur' ty' fr') ∧ cur'[off + k * 12 + 11]? = some (.int .i64 x.action)) := ⟨hg', ent_act hc'⟩
              have NE2 : Hid ((Value.slice oP nP cP).ownBlock ≠ some g2) := fun hq => own_apart OX.out CX.out (by decide) g2 hq rfl
              have NE1 : Hid ((Value.slice oP nP cP).ownBlock ≠ some g) := fun hq => own_apart OX.out RX.out (by decide) g hq rfl
              have HRN : Hid (rulesOf (P ++ [((U, N), x.action)]) = rulesOf P ++ [rxR nP U N x.action]) := by
                show _ = _
                rw [rulesOf_snoc, HNP.out, rulesOf_len]
              clear hg2 hc2' hcj hU hN hsl hse hg' hc' hxk'
              go_upto_region 14 with fail
              refine rx_region (w00 := w) (by exact Nat.le_of_eq rfl) w.heap.size oP cP nP j k g2 off2 cc mn g off cR nR U N HG2.out.2.2.1 HG2.out.2.2.2 x.action (rulesOf P) cur2 cur' ty2 ty' fr2 fr' rfl rfl rfl rfl rfl hjt HLT.out HG2.out.1 HG2.out.2.1 HG1.out.1 HG1.out.2 OX.out HNP.out (by have h1 := HNP.out; have h2 := HPL.out; have h3 := HNQ.out; omega) BX.out.size BX.out NE2.out NE1.out ?_
              intro y w5 v' kx hown5
              have O5 : Hid (w5.ownsRow w.heap.size 39 28 v' (rulesOf (P ++ [((U, N), x.action)])).length (gcells ruleV (rulesOf (P ++ [((U, N), x.action)])))) := by rw [HRN.out]; exact hown5
              have R5 : Hid (w5.ownsRow w.heap.size 35 12 (.slice (some ⟨g, off, none⟩) nR cR) nR (gcells entV R)) := kx.keep _ _ _ _ _ (by decide) RX.out
              have C5 : Hid (w5.ownsRow w.heap.size 37 26 (.slice (some ⟨g2, off2, none⟩) mn cc) mn (ccells (cubesT x))) := kx.keep _ _ _ _ _ (by decide) CX.out
              have B5 : Hid (Below w.heap.size w w5) := kx.below
              have HPN : Hid (P ++ [((U, N), x.action)] = Q ++ (pq8 x).take (j + 1)) := by
                show _ = _
                rw [take_snoc HCJ.out, ← List.append_assoc, ← HPE.out]
              clear hown5 kx
              simp only [putsD, rx_D0, List.foldl_cons, List.foldl_nil, Act.put, List.setIfInBounds_toArray, List.set_cons_succ, List.set_cons_zero]
              go_wp2_with fail
              go_roundw
              case rel => exact ⟨j + 1, P ++ [((U, N), x.action)], by omega, by go_num, HPN.out, O5.out, R5.out, C5.out, B5.out⟩
              case measure => simp [intOf]; omega
            · have hjt' : ¬ (j : Int) < (mn : Int) := by omega
              have HE : Hid (P = pairsT (R.take (k + 1))) := by
                have h1 := pq_len x
                have h2 := HMM.out
                show _ = _
                rw [PT.out, HPE.out, List.take_of_length_le (by omega)]
              go_wp2_with fail
              go_roundw
              case rel =>
                have := HLT.out
                refine ⟨k + 1, P, by omega, by go_num, HE.out, ?_, by rw [← HNP.out] at OX ⊢; exact OX.out, RX.out, BX.out⟩
                have h1 := HNP.out
                have h2 := HPL.out
                have h3 := HNQ.out
                rw [rulesOf_len] at h1
                omega
              case measure =>
                have := HLT.out
                simp [intOf]; omega
    · have hlt' : ¬ (k : Int) < (nR : Int) := by omega
      have HE : Hid (Q = pairsT R) := by
        have e := HNR.out
        show _ = _
        rw [HQ.out, List.take_of_length_le (by omega)]
      go_wp2_with fail
      go_ret2
      refine ⟨⟨R, HR.out, .inl ⟨_, rfl, ?_, ?_⟩⟩, HB.out⟩
      · rw [← HE.out, ← HBE.out]; exact hQb
      · rw [← HE.out, rulesOf_len, ← HNQ.out]; exact HO.out
end Go.Proofs.YthddlchkbnmcaaaGreatDoor
namespace Go.Proofs.YthddlchkbnmcaaaGreatDoor
open Go Go.RowKit
set_option maxRecDepth 20000

theorem slice_ents8 {o : Option Addr} {n0 cap : Nat} {w : World} {l : List Ent} (h : EntsAt w (.slice o n0 cap) l) (n : Nat) (hn : n ≤ n0) (hc : n0 ≤ cap) (W : World) :
    (Instr.sliceAt 22 (.slice o n0 cap) none (some (.int .i64 (n : Int))) none).run Tryz.prog W = .ok (.slice o n cap) W := by
  rcases Nat.eq_zero_or_pos n0 with h0 | h0
  · obtain rfl : n = 0 := by omega
    cases o with
    | none => simp [go_sem, Tryz.underlying22]
    | some a => simp [go_sem, Tryz.underlying22]
  · obtain ⟨g, off, _, _, _, _, rfl, _⟩ := h.at 0 h0
    simp [go_sem, Tryz.underlying22]
    omega
/-- What Expand answers, told by the rules and the word. -/
def expT (R : List Ent) (m : Int) : List RuleM × Int := if (pairsT R).length ≤ bnd4 m then (rulesOf (pairsT R), 0) else ([], 4)
theorem exp_ok (R : List Ent) (m : Int) : ∀ r ∈ (expT R m).1, okR8 r := fun r hr => by
  unfold expT at hr
  split at hr
  · exact okQ_rules (okQ_pairs R) r hr
  · simp at hr
theorem exp_of {B : Nat} {w : World} {R : List Ent} {m : Int} {e : Ending} (h : ExpR B w R m e) : ∃ u, e = .returned (.tuple #[u, .int .i64 (expT R m).2]) ∧ RulesAt w u (expT R m).1 := by
  have hok := exp_ok R m
  unfold expT at hok ⊢
  rcases h with ⟨u, h1, h2, h3⟩ | ⟨h1, h2⟩
  · rw [if_pos h2] at hok ⊢
    exact ⟨u, h1, gsl_of (E := RuleE) h3 fun c hc => ruleV_size (hok c hc)⟩
  · rw [if_neg (by omega)] at hok ⊢
    exact ⟨_, h1, gsl_of (E := RuleE) (B := B) (C := []) (World.ownsRow_nil _ _ _ _) fun c hc => by simp at hc⟩

set_option maxHeartbeats 8000000 in
set_option maxRecDepth 100000 in
theorem lawFExpands_any (l0 : List Ent) (h320 : ∀ x ∈ l0, ent32 x) (vl : Value) (m : Int) (w : World) (hl0 : EntsAt w vl l0) (hP : Places w) :
    Calls Tryz.prog 3 #[vl, .int .i64 m] w fun e w' => e = .returned (.bool true) ∧ Below w.heap.size w w' := by
  obtain ⟨o, cap, rfl, hc1, hc2⟩ := GSl.slice hl0
  obtain ⟨n0, hn0⟩ : ∃ n, n = l0.length := ⟨_, rfl⟩
  rw [← hn0] at hl0 hc1 ⊢
  obtain ⟨n, hn⟩ : ∃ n, n = min n0 40 := ⟨_, rfl⟩
  have HNM : Hid ((n : Int) = min (n0 : Int) 40) := (by omega : (n : Int) = min (n0 : Int) 40)
  have hn0' : n ≤ n0 := by omega
  have hl : EntsAt w (.slice o n cap) (l0.take n) := GSl.take7 hl0 hn0'
  have h32 : ∀ x ∈ l0.take n, ent32 x := fun x hx => h320 x (List.mem_of_mem_take hx)
  have hlen : (l0.take n).length ≤ 100000 := by rw [List.length_take]; omega
  have hsl : ∀ W, (Instr.sliceAt 22 (.slice o n0 cap) none (some (.int .i64 (n : Int))) none).run Tryz.prog W = .ok (.slice o n cap) W := slice_ents8 hl0 n hn0' hc1
  obtain ⟨l, hle⟩ : ∃ l, l = l0.take n := ⟨_, rfl⟩
  rw [← hle] at hl h32 hlen
  unfold maxLen at hc2
  have AW : Hid (∀ W, Below w.heap.size w W → Calls Tryz.prog 5 #[] W fun e w' => e = .returned (.bool true) ∧ Below W.heap.size W w') := fun W hb => awake8_any W (hP.later hP.pos hb)
  have E1 : Hid (∀ W, Below w.heap.size w W → Calls Tryz.prog 6 #[.slice o n cap, .int .i64 m] W fun e w' => (∃ R, RowsOf l R ∧ ∃ u, e = .returned (.tuple #[u, .int .i64 (expT R m).2]) ∧ RulesAt w' u (expT R m).1) ∧ Below W.heap.size W w') := fun W hb => (expand_any l h32 hlen m _ W (GSl.below hl hb) (hP.later hP.pos hb)).mono fun e w' ⟨⟨R, h1, h2⟩, h3⟩ => ⟨⟨R, h1, exp_of h2⟩, h3⟩
  have E2 : Hid (∀ W, Below w.heap.size w W → Calls Tryz.prog 7 #[.slice o n cap, .int .i64 m] W fun e w' => (∃ R, RowsOf l R ∧ ∃ u, e = .returned (.tuple #[u, .int .i64 (expT R m).2]) ∧ RulesAt w' u (expT R m).1) ∧ Below W.heap.size W w') := fun W hb => (rexpand_any l h32 hlen m _ W (GSl.below hl hb)).mono fun e w' ⟨⟨R, h1, h2⟩, h3⟩ => ⟨⟨R, h1, exp_of h2⟩, h3⟩
  have SM : Hid (∀ (T : List RuleM) va vb W, (∀ r ∈ T, okR8 r) → RulesAt W va T → RulesAt W vb T → Calls Tryz.prog 8 #[va, vb] W fun e w' => e = .returned (.bool true) ∧ Below W.heap.size W w') := fun T va vb W h0 h1 h2 => rsame8_any T h0 va vb W h1 h2
  clear hl hl0 h32 h320 hle hn hn0 hP hlen
  go_enter Tryz.func3, Tryz.ntmps3
  go_wp2_with fail
  refine (AW.out _ (Below.refl _ _)).mono ?_
  rintro e w1 ⟨rfl, hb1⟩
  have B1 : Hid (Below w.heap.size w w1) := hb1
  clear hb1
  go_wp2_with (refine wl_min7 rfl _ _ rfl (n0 : Int) 40 (n : Int) rfl rfl HNM.out ?_)
  refine (E1.out _ B1.out).mono ?_
  rintro e w2 ⟨⟨R, hR, u, rfl, hu⟩, hb2⟩
  have B2 : Hid (Below w.heap.size w w2) := B1.out.trans (hb2.mono B1.out.size)
  have HR : Hid (RowsOf l R) := hR
  have U2 : Hid (RulesAt w2 u (expT R m).1) := hu
  clear hb2 hu hR
  go_wp2_with fail
  refine (E2.out _ B2.out).mono ?_
  rintro e w3 ⟨⟨R', hR', v, rfl, hv⟩, hb3⟩
  obtain rfl : R = R' := rowsOf_one HR.out hR'
  have B3 : Hid (Below w.heap.size w w3) := B2.out.trans (hb3.mono B2.out.size)
  have U3 : Hid (RulesAt w3 u (expT R m).1) := GSl.below U2.out hb3
  have V3 : Hid (RulesAt w3 v (expT R m).1) := hv
  have OK : Hid (∀ r ∈ (expT R m).1, okR8 r) := exp_ok R m
  obtain ⟨c, hc⟩ : ∃ c, c = (expT R m).2 := ⟨_, rfl⟩
  rw [← hc]
  have hcc : (c == c) = true := by simp
  clear hb3 hv hR' hc
  go_wp2_with fail
  refine (SM.out _ _ _ _ OK.out U3.out V3.out).mono ?_
  rintro e w4 ⟨rfl, hb4⟩
  have B4 : Hid (Below w.heap.size w w4) := B3.out.trans (hb4.mono B3.out.size)
  clear hb4
  go_wp2_with fail
  go_ret
  exact ⟨rfl, B4.out⟩
end Go.Proofs.YthddlchkbnmcaaaGreatDoor
namespace Go.Proofs.YthddlchkbnmcaaaGreatDoor
open Go Go.RowKit
set_option maxRecDepth 20000

set_option maxHeartbeats 16000000 in
set_option maxRecDepth 100000 in
theorem rcompile_any (l : List Ent) (h32 : ∀ x ∈ l, ent32 x) (hn : l.length ≤ 100000) (vl : Value) (w : World) (hl : EntsAt w vl l) :
    Calls Tryz.prog 10 #[vl] w fun e w' => (∃ R, RowsOf l R ∧ CompR w.heap.size w' R e) ∧ Below w.heap.size w w' := by
  have EX : Hid (Calls Tryz.prog 7 #[vl, .int .i64 2048] w fun e w' => (∃ R, RowsOf l R ∧ ExpR w.heap.size w' R 2048 e) ∧ Below w.heap.size w w') := rexpand_any l h32 hn 2048 vl w hl
  have TR : Hid (∀ (L : List RuleM) v W, (∀ r ∈ L, okR8 r) → L.length ≤ 100000 → RulesAt W v L → Calls Tryz.prog 21 #[v] W fun e w' => (∃ v, e = .returned v ∧ w'.ownsRow W.heap.size 39 28 v (trimT L).length (gcells ruleV (trimT L))) ∧ Below W.heap.size W w') := fun L v W h1 h2 h3 => rtrim_any L h1 h2 v W h3
  clear h32 hl
  go_enter Tryz.func10, Tryz.ntmps10
  go_wp2_with fail
  refine EX.out.mono ?_
  rintro e w1 ⟨⟨R, hR, hE⟩, hb1⟩
  have HR : Hid (RowsOf l R) := hR
  have B1 : Hid (Below w.heap.size w w1) := hb1
  clear EX hR hb1
  rw [show ExpR w.heap.size w1 R 2048 e = ((∃ u, e = .returned (.tuple #[u, .int .i64 0]) ∧ (pairsT R).length ≤ 2048 ∧ w1.ownsRow w.heap.size 39 28 u (rulesOf (pairsT R)).length (gcells ruleV (rulesOf (pairsT R)))) ∨ (e = .returned (.tuple #[.slice none 0 0, .int .i64 4]) ∧ 2048 < (pairsT R).length)) from rfl] at hE
  rcases hE with ⟨u, rfl, hle, hown⟩ | ⟨rfl, hmany⟩
  · have HLE : Hid ((pairsT R).length ≤ 2048) := hle
    have HK : Hid (∀ r ∈ rulesOf (pairsT R), okR8 r) := okQ_rules (okQ_pairs R)
    have RA : Hid (RulesAt w1 u (rulesOf (pairsT R))) := gsl_of (E := RuleE) hown fun c hc => ruleV_size (HK.out c hc)
    have HL2 : Hid ((rulesOf (pairsT R)).length ≤ 100000) := by show _ ≤ _; rw [rulesOf_len]; omega
    obtain ⟨o1, c1, rfl⟩ := gown_slice hown
    clear hle hown
    go_wp2_with fail
    refine (TR.out _ _ _ HK.out HL2.out RA.out).mono ?_
    rintro e w2 ⟨⟨v, rfl, ho2⟩, hb2⟩
    have B2 : Hid (Below w.heap.size w w2) := B1.out.trans (hb2.mono B1.out.size)
    obtain ⟨T, hT⟩ : ∃ T, T = trimT (rulesOf (pairsT R)) := ⟨_, rfl⟩
    rw [← hT] at ho2
    have HT : Hid (T = trimT (rulesOf (pairsT R))) := hT
    have HTK : Hid (∀ r ∈ T, okR8 r) := by rw [hT]; exact ok_trim HK.out
    have O2 : Hid (w2.ownsRow w.heap.size 39 28 v T.length (gcells ruleV T)) := gown_base ho2 B1.out.size
    have HTL : Hid (T.length ≤ 2048) := by
      show _ ≤ _
      have h1 := trimO_len withinR (rulesOf (pairsT R)) []
      have h2 := HLE.out
      rw [rulesOf_len, List.length_nil] at h1
      rw [hT]
      unfold trimT
      omega
    obtain ⟨o2, c2, rfl⟩ := gown_slice ho2
    obtain ⟨nT, hnT⟩ : ∃ n, n = T.length := ⟨_, rfl⟩
    have HNT : Hid (nT = T.length) := hnT
    have hnT2 : nT ≤ 2048 := by rw [hnT]; exact HTL.out
    rw [← hnT] at O2 ⊢
    clear ho2 hb2 hT hnT
    by_cases hbig : 512 < nT
    · have hbig' : (512 : Int) < (nT : Int) := by omega
      have HC : Hid (compT R = ([], 16)) := by
        show _ = _
        unfold compT
        rw [if_neg (by have := HLE.out; omega), if_pos (by rw [← HT.out, ← HNT.out]; exact hbig)]
      go_wp2_with fail
      go_ret2
      refine ⟨⟨R, HR.out, _, by rw [HC.out]; rfl, ?_⟩, B2.out⟩
      rw [HC.out]
      exact World.ownsRow_nil _ _ _ _
    · have hbig' : ¬ (512 : Int) < (nT : Int) := by omega
      have HC : Hid (compT R = (renum T, 0)) := by
        show _ = _
        unfold compT
        rw [if_neg (by have := HLE.out; omega), if_neg (by rw [← HT.out, ← HNT.out]; exact hbig), ← HT.out]
      have O3 : Hid (w2.ownsRow w.heap.size 39 28 (.slice o2 nT c2) (renumTo T 0).length (gcells ruleV (renumTo T 0))) := by
        have := O2.out
        rw [HNT.out] at this ⊢
        have e0 : renumTo T 0 = T := by simp [renumTo, renum]
        rw [e0]
        exact this
      clear O2 hbig
      go_wp2_with fail
      go_loopw [7] (fun i wr => ∃ (k : Nat), k ≤ nT ∧ i = .int .i64 (k : Int) ∧ wr.ownsRow w.heap.size 39 28 (.slice o2 nT c2) (renumTo T k).length (gcells ruleV (renumTo T k)) ∧ Below w.heap.size w wr) (fun i _ => nT - (intOf i).toNat)
      case atStart => exact ⟨0, Nat.zero_le _, rfl, O3.out, B2.out⟩
      case round =>
        clear O3 B2
        obtain ⟨k, hk, rfl, ho, hb⟩ := hrel
        have HO : Hid (wr.ownsRow w.heap.size 39 28 (.slice o2 nT c2) (renumTo T k).length (gcells ruleV (renumTo T k))) := ho
        have HB : Hid (Below w.heap.size w wr) := hb
        clear ho hb
        by_cases hlt : k < nT
        · have hlt' : (k : Int) < (nT : Int) := by omega
          obtain ⟨r, hr⟩ : ∃ r, T[k]? = some r := ⟨_, List.getElem?_eq_getElem (by rw [← HNT.out]; exact hlt)⟩
          have hrok : okR8 r := HTK.out r (List.mem_of_getElem? hr)
          have hk2 : k < (renumTo T k).length := by rw [renumTo_len, ← HNT.out]; exact hlt
          have hrk : (renumTo T k)[k] = r := by
            have := renumTo_at hr
            rw [List.getElem?_eq_getElem hk2] at this
            exact Option.some.inj this
          have hall : ∀ c ∈ renumTo T k, (ruleV c).size = 28 := fun c hc => ruleV_size (ok_renumTo HTK.out k c hc)
          obtain ⟨_, ⟨h2, _⟩ | ⟨g, cap', cur, h2, hB, hcur, h5, h6, h7, h4⟩⟩ := id HO.out
          · simp only [Value.slice.injEq] at h2
            omega
          · simp only [Value.slice.injEq] at h2
            obtain ⟨rfl, _, rfl⟩ := h2
            have hcell : wr.cell? ⟨g, k * 28, none⟩ = some (.int .i64 r.order) := by
              rw [cell_of_row _ _ _ _ _ _ hcur]
              have h8 := gcells_at ruleV 28 (renumTo T k) hall k hk2 0 (by decide)
              rw [← h4, List.getElem?_take_of_lt (by have := Nat.mul_lt_mul_of_pos_right hk2 (show 0 < 28 by decide); omega), Array.getElem?_toList, hrk, (rule_at hrok).1, Nat.add_zero, Nat.mul_comm] at h8
              exact h8
            have hfr : wr.frozen? ⟨g, k * 28, none⟩ = false := by simp [World.frozen?, hcur]
            have OS : Hid ((wr.setCell ⟨g, k * 28, none⟩ (.int .i64 (k : Int))).ownsRow w.heap.size 39 28 (.slice (some ⟨g, 0, none⟩) nT c2) (renumTo T (k + 1)).length (gcells ruleV (renumTo T (k + 1)))) := by
              rw [renumTo_next hr]
              exact own_setField HO.out hall hk2 (ruleV_size (show okR8 ⟨(k : Int), r.cube, r.action⟩ from hrok)) _ (rule_set hrok _).1 (fun q q0 q1 => by rw [hrk]; exact (rule_set hrok _).2 q q0 q1)
            have BS : Hid (Below w.heap.size w (wr.setCell ⟨g, k * 28, none⟩ (.int .i64 (k : Int)))) := HB.out.setCell (p := ⟨g, k * 28, none⟩) hB _
            clear hcur h4 hall hrk hr hrok hk2 h5 h6 h7
            go_wp2_with fail
            go_roundw
            case rel => exact ⟨k + 1, by omega, by go_num, OS.out, BS.out⟩
            case measure => simp [intOf]; omega
        · have hlt' : ¬ (k : Int) < (nT : Int) := by omega
          have HE : Hid (renumTo T k = renum T) := by
            have e := HNT.out
            show _ = _
            rw [show k = T.length by omega, renumTo_all]
          go_wp2_with fail
          go_ret2
          refine ⟨⟨R, HR.out, _, by rw [HC.out]; rfl, ?_⟩, HB.out⟩
          rw [HC.out, ← HE.out]
          exact HO.out
  · have HC : Hid (compT R = ([], 16)) := by
      show _ = _
      unfold compT
      rw [if_pos hmany]
    clear hmany
    go_wp2_with fail
    go_ret2
    refine ⟨⟨R, HR.out, _, by rw [HC.out]; rfl, ?_⟩, B1.out⟩
    rw [HC.out]
    exact World.ownsRow_nil _ _ _ _
end Go.Proofs.YthddlchkbnmcaaaGreatDoor
namespace Go.Proofs.YthddlchkbnmcaaaGreatDoor
open Go Go.RowKit
set_option maxRecDepth 20000

set_option maxHeartbeats 16000000 in
set_option maxRecDepth 100000 in
theorem lawFEntries_any (l0 : List Ent) (h320 : ∀ x ∈ l0, ent32 x) (vl : Value) (H : List Int) (hH : Byt H) (w : World) (hl0 : EntsAt w vl l0) (hP : Places w) :
    Calls Tryz.prog 4 #[vl, .agg (hv H)] w fun e w' => e = .returned (.bool true) ∧ Below w.heap.size w w' := by
  have hHl := hH.1
  obtain ⟨o, cap, rfl, hc1, hc2⟩ := GSl.slice hl0
  obtain ⟨n0, hn0⟩ : ∃ n, n = l0.length := ⟨_, rfl⟩
  rw [← hn0] at hl0 hc1 ⊢
  obtain ⟨n, hn⟩ : ∃ n, n = min n0 40 := ⟨_, rfl⟩
  have HNM : Hid ((n : Int) = min (n0 : Int) 40) := (by omega : (n : Int) = min (n0 : Int) 40)
  have hn0' : n ≤ n0 := by omega
  have hn40 : n ≤ 40 := by omega
  have hl : EntsAt w (.slice o n cap) (l0.take n) := GSl.take7 hl0 hn0'
  have h32 : ∀ x ∈ l0.take n, ent32 x := fun x hx => h320 x (List.mem_of_mem_take hx)
  have hlen : (l0.take n).length ≤ 100000 := by rw [List.length_take]; omega
  have hlen2 : (l0.take n).length = n := by rw [List.length_take]; omega
  have hsl : ∀ W, (Instr.sliceAt 22 (.slice o n0 cap) none (some (.int .i64 (n : Int))) none).run Tryz.prog W = .ok (.slice o n cap) W := slice_ents8 hl0 n hn0' hc1
  obtain ⟨l, hle⟩ : ∃ l, l = l0.take n := ⟨_, rfl⟩
  rw [← hle] at hl h32 hlen hlen2
  have HLN : Hid (l.length = n) := hlen2
  unfold maxLen at hc2
  have AW : Hid (∀ W, Below w.heap.size w W → Calls Tryz.prog 5 #[] W fun e w' => e = .returned (.bool true) ∧ Below W.heap.size W w') := fun W hb => awake8_any W (hP.later hP.pos hb)
  have E1 : Hid (∀ W, Below w.heap.size w W → Calls Tryz.prog 9 #[.slice o n cap] W fun e w' => (∃ R, RowsOf l R ∧ CompR W.heap.size w' R e) ∧ Below W.heap.size W w') := fun W hb => compile_any l h32 hlen _ W (GSl.below hl hb) (hP.later hP.pos hb)
  have E2 : Hid (∀ W, Below w.heap.size w W → Calls Tryz.prog 10 #[.slice o n cap] W fun e w' => (∃ R, RowsOf l R ∧ CompR W.heap.size w' R e) ∧ Below W.heap.size W w') := fun W hb => rcompile_any l h32 hlen _ W (GSl.below hl hb)
  have SM : Hid (∀ (T : List RuleM) va vb W, (∀ r ∈ T, okR8 r) → RulesAt W va T → RulesAt W vb T → Calls Tryz.prog 8 #[va, vb] W fun e w' => e = .returned (.bool true) ∧ Below W.heap.size W w') := fun T va vb W h0 h1 h2 => rsame8_any T h0 va vb W h1 h2
  have LK : Hid (∀ (T : List RuleM) v W, (∀ r ∈ T, okR8 r) → RulesAt W v T → Calls Tryz.prog 11 #[v, .agg (hv H)] W fun e w' => e = .returned (.tuple #[.agg (ruleV (lookT T H).1), .bool (lookT T H).2]) ∧ Below W.heap.size W w') := fun T v W h1 h2 => look_any T h1 v H hH W h2
  have SY : Hid (∀ W, Below w.heap.size w W → Calls Tryz.prog 12 #[.slice o n cap, .agg (hv H)] W fun e w' => e = .returned (.tuple #[.int .i64 (saysT (applyT H) l).1, .bool (saysT (applyT H) l).2]) ∧ Below W.heap.size W w') := fun W hb => says_any l _ W (GSl.below hl hb) h32 H hH (hP.later hP.pos hb)
  have FM : Hid (∀ R, RowsOf l R → (∀ x ∈ l, okPt x) → (compT R).2 = 0 → (lookT (compT R).1 H).1.action = (saysT (applyT H) l).1 ∧ (lookT (compT R).1 H).2 = (saysT (applyT H) l).2) := fun R h1 h2 h3 => flat_means h1 H hH h32 h2 h3
  have HL : Hid (EntsAt w (.slice o n cap) l) := hl
  have K0 : Hid ((w.alloc (.cells (hv H) 31)).heap[w.heap.size]? = some (.cells (hv H) 31 (0, 0))) := heap_new _ _ _ rfl
  have B0 : Hid (Below w.heap.size w (w.alloc (.cells (hv H) 31))) := (Below.refl _ _).alloc (Nat.le_refl _) _
  clear hl hl0 h32 h320 hle hn hn0 hP hlen hlen2
  go_enter Tryz.func4, Tryz.ntmps4
  go_wp2_with fail
  refine (AW.out _ B0.out).mono ?_
  rintro e w1 ⟨rfl, hb1⟩
  have R1 : Hid (w1.heap[w.heap.size]? = some (.cells (hv H) 31 (0, 0))) := (hb1.block _ (by simp)).trans K0.out
  have B1 : Hid (Below w.heap.size w w1) := B0.out.trans (hb1.mono B0.out.size)
  clear hb1 K0 B0
  go_wp2_with (refine wl_min7 rfl _ _ rfl (n0 : Int) 40 (n : Int) rfl rfl HNM.out ?_)
  refine (E1.out _ B1.out).mono ?_
  rintro e w2 ⟨⟨R, hR, u, rfl, hu⟩, hb2⟩
  have R2 : Hid (w2.heap[w.heap.size]? = some (.cells (hv H) 31 (0, 0))) := (hb2.block _ (Array.getElem?_eq_some_iff.1 R1.out).1).trans R1.out
  have B2 : Hid (Below w.heap.size w w2) := B1.out.trans (hb2.mono B1.out.size)
  have HR : Hid (RowsOf l R) := hR
  have OK : Hid (∀ r ∈ (compT R).1, okR8 r) := comp_ok R
  have U2 : Hid (RulesAt w2 u (compT R).1) := gsl_of (E := RuleE) hu fun c hc => ruleV_size (OK.out c hc)
  clear hb2 hu hR R1 B1
  go_wp2_with fail
  refine (E2.out _ B2.out).mono ?_
  rintro e w3 ⟨⟨R', hR', v, rfl, hv'⟩, hb3⟩
  obtain rfl : R = R' := rowsOf_one HR.out hR'
  have R3 : Hid (w3.heap[w.heap.size]? = some (.cells (hv H) 31 (0, 0))) := (hb3.block _ (Array.getElem?_eq_some_iff.1 R2.out).1).trans R2.out
  have B3 : Hid (Below w.heap.size w w3) := B2.out.trans (hb3.mono B2.out.size)
  have U3 : Hid (RulesAt w3 u (compT R).1) := GSl.below U2.out hb3
  have V3 : Hid (RulesAt w3 v (compT R).1) := gsl_of (E := RuleE) hv' fun c hc => ruleV_size (OK.out c hc)
  obtain ⟨c, hc⟩ : ∃ c, c = (compT R).2 := ⟨_, rfl⟩
  rw [← hc]
  have HC : Hid (c = (compT R).2) := hc
  have hcc : (c != c) = false := by simp
  clear hb3 hv' hR' hc R2 B2 U2
  go_wp2_with fail
  refine (SM.out _ _ _ _ OK.out U3.out V3.out).mono ?_
  rintro e w4 ⟨rfl, hb4⟩
  have R4 : Hid (w4.heap[w.heap.size]? = some (.cells (hv H) 31 (0, 0))) := (hb4.block _ (Array.getElem?_eq_some_iff.1 R3.out).1).trans R3.out
  have B4 : Hid (Below w.heap.size w w4) := B3.out.trans (hb4.mono B3.out.size)
  have U4 : Hid (RulesAt w4 u (compT R).1) := GSl.below U3.out hb4
  clear hb4 R3 B3 U3 V3
  by_cases hc0 : c = 0
  · have HC0 : Hid ((compT R).2 = 0) := by show _ = _; rw [← HC.out]; exact hc0
    subst hc0
    clear hcc
    go_wp2_with fail
    go_loopw [9] (fun i wr => ∃ (k : Nat), k ≤ n ∧ i = .int .i64 (k : Int) ∧ Hid (∀ j x, j < k → l[j]? = some x → okPt x) ∧ Below w4.heap.size w4 wr) (fun i _ => n - (intOf i).toNat)
    case atStart => exact ⟨0, Nat.zero_le _, rfl, fun j x hj => absurd hj (Nat.not_lt_zero _), Below.refl _ _⟩
    case round =>
      obtain ⟨k, hk, rfl, HOK, hbq⟩ := hrel
      have BQ : Hid (Below w4.heap.size w4 wr) := hbq
      have BW : Hid (Below w.heap.size w wr) := B4.out.trans (hbq.mono B4.out.size)
      clear hbq
      by_cases hlt : k < n
      · have hlt' : (k : Int) < (n : Int) := by omega
        obtain ⟨g, off, cur, ty, fr, x, rfl, K1, hc', hxk⟩ := (GSl.below HL.out BW.out).at k hlt
        have cc : ∀ j u, (entV x)[j]? = some u → j < 12 → wr.cell? ⟨g, off + k * 12 + j, none⟩ = some u := fun j u hu hj => by rw [cell_of_row _ _ _ _ _ _ K1]; exact (hc' j hj).trans hu
        have f0 : wr.cell? ⟨g, off + k * 12, none⟩ = some (.bool x.dflt) := cc 0 _ rfl (by decide)
        have f6 := cc 6 (.int .i64 x.slow) rfl (by decide)
        have f7 := cc 7 (.int .i64 x.shigh) rfl (by decide)
        have f8 := cc 8 (.int .i64 x.dlow) rfl (by decide)
        have f9 := cc 9 (.int .i64 x.dhigh) rfl (by decide)
        have NXT : Hid (okPt x → ∀ j y, j < k + 1 → l[j]? = some y → okPt y) := fun h j y hj hy => by
          by_cases e : j = k
          · subst e
            obtain rfl := Option.some.inj (hxk.symm.trans hy)
            exact h
          · exact HOK.out j y (by omega) hy
        clear cc hc' hxk K1 HOK
        cases hd : x.dflt with
        | true =>
          rw [hd] at f0
          have NB : Hid (∀ j y, j < k + 1 → l[j]? = some y → okPt y) := NXT.out (fun h => by rw [hd] at h; cases h)
          clear hd
          go_wp2_with fail
          go_roundw
          case rel => exact ⟨k + 1, by omega, by go_num, NB.out, BQ.out⟩
          case measure => simp [intOf]; omega
        | false =>
          rw [hd] at f0
          by_cases h1 : x.slow < 0
          · go_wp2_with fail
            go_ret
            exact ⟨rfl, BW.out⟩
          · by_cases h2 : 65535 < x.shigh
            · go_wp2_with fail
              go_ret
              exact ⟨rfl, BW.out⟩
            · by_cases h3 : x.dlow < 0
              · go_wp2_with fail
                go_ret
                exact ⟨rfl, BW.out⟩
              · by_cases h4 : 65535 < x.dhigh
                · go_wp2_with fail
                  go_ret
                  exact ⟨rfl, BW.out⟩
                · have NB : Hid (∀ j y, j < k + 1 → l[j]? = some y → okPt y) := NXT.out (fun _ => ⟨by omega, by omega, by omega, by omega⟩)
                  clear hd
                  go_wp2_with fail
                  go_roundw
                  case rel => exact ⟨k + 1, by omega, by go_num, NB.out, BQ.out⟩
                  case measure => simp [intOf]; omega
      · have hlt' : ¬ (k : Int) < (n : Int) := by omega
        have ALL : ∀ x ∈ l, okPt x := fun x hx => by
          obtain ⟨j, hj⟩ := List.mem_iff_getElem?.1 hx
          have h1 := (List.getElem?_eq_some_iff.1 hj).1
          have h2 := HLN.out
          exact HOK.out j x (by omega) hj
        obtain ⟨q1, q2⟩ := FM.out R HR.out ALL HC0.out
        have R5 : Hid (wr.heap[w.heap.size]? = some (.cells (hv H) 31 (0, 0))) := (BQ.out.block _ (Array.getElem?_eq_some_iff.1 R4.out).1).trans R4.out
        have U5 : Hid (RulesAt wr u (compT R).1) := GSl.below U4.out BQ.out
        have L5 : Hid (Calls Tryz.prog 11 #[u, .agg (hv H)] wr fun e w' => e = .returned (.tuple #[.agg (ruleV (lookT (compT R).1 H).1), .bool (lookT (compT R).1 H).2]) ∧ Below wr.heap.size wr w') := LK.out _ _ _ OK.out U5.out
        have hr := look_ok OK.out H
        rw [q2] at L5
        obtain ⟨r, hre⟩ : ∃ r, r = (lookT (compT R).1 H).1 := ⟨_, rfl⟩
        rw [← hre] at L5 hr q1
        obtain ⟨a, haa⟩ : ∃ a, a = (saysT (applyT H) l).1 := ⟨_, rfl⟩
        obtain ⟨is, his⟩ : ∃ b, b = (saysT (applyT H) l).2 := ⟨_, rfl⟩
        rw [← haa] at SY q1
        rw [← his] at SY L5
        have HRK : Hid (okR8 r) := hr
        have HA : Hid (r.action = a) := q1
        have hii : (is == is) = true := by simp
        have haeq : (a == a) = true := by simp
        clear ALL q1 q2 hre haa his hr HOK FM LK SM E1 E2 R4 U4 U5
        go_wp2_with (refine wl_load26 rfl _ rfl w.heap.size rfl H R5.out hHl ?_)
        refine L5.out.mono ?_
        rintro e w5 ⟨rfl, hb5⟩
        have B6 : Hid (Below w.heap.size w (w5.alloc (.cells (ruleV r) 39))) := (BW.out.trans (hb5.mono BW.out.size)).alloc (BW.out.trans (hb5.mono BW.out.size)).size _
        have R6 : Hid ((w5.alloc (.cells (ruleV r) 39)).heap[w.heap.size]? = some (.cells (hv H) 31 (0, 0))) := heap_past _ _ _ _ ((hb5.block _ (Array.getElem?_eq_some_iff.1 R5.out).1).trans R5.out)
        have X6 : Hid ((w5.alloc (.cells (ruleV r) 39)).heap[w5.heap.size]? = some (.cells (ruleV r) 39 (0, 0))) := heap_new _ _ _ rfl
        clear hb5 R5 L5
        go_wp2_with (first
          | (refine wl_storeE (E := RuleE) RuleOk rfl _ _ rfl w5.heap.size (ruleV r) (rule_fits HRK.out) rfl rfl _ (heap_new _ _ _ rfl) rfl _ (setRow_new _ _ _ _ _ rfl) ?_)
          | (refine wl_load26 rfl _ rfl w.heap.size rfl H R6.out hHl ?_))
        refine (SY.out _ B6.out).mono ?_
        rintro e w7 ⟨rfl, hb7⟩
        have B7 : Hid (Below w.heap.size w w7) := B6.out.trans (hb7.mono B6.out.size)
        have q : w7.cell? ⟨w5.heap.size, 27, none⟩ = some (.int .i64 a) := by rw [cell_of_row _ _ _ _ _ _ ((hb7.block _ (by simp)).trans X6.out), (rule_at HRK.out).2.2, HA.out]
        clear hb7 R6 X6 B6
        go_wp2_with fail
        go_ret
        exact ⟨rfl, B7.out⟩
  · have hc0' : (c != 0) = true := by simp [hc0]
    clear hc0
    go_wp2_with fail
    go_ret
    exact ⟨rfl, B4.out⟩
end Go.Proofs.YthddlchkbnmcaaaGreatDoor
