import Derived.Test.YthddlchkbnmcaaaGreatDoorJ23
import Derived.Test.YthddlchkbnmcaaaGreatDoorJ41
namespace Go.Proofs.YthddlchkbnmcaaaGreatDoor
open Go Go.RowKit
set_option maxRecDepth 20000

/-- What an entry, and a list's rows, come to. -/
def pq8 (x : Ent) : List (CubeT × Int) := (cubesT x).map fun c => (c, x.action)
def pairsT (R : List Ent) : List (CubeT × Int) := R.flatMap pq8
def rulesOf (P : List (CubeT × Int)) : List RuleM := P.zipIdx.map fun q => ⟨(q.2 : Int), q.1.1, q.1.2⟩
theorem rulesOf_snoc (P : List (CubeT × Int)) (q : CubeT × Int) : rulesOf (P ++ [q]) = rulesOf P ++ [⟨(P.length : Int), q.1, q.2⟩] := by
  unfold rulesOf
  rw [List.zipIdx_append, List.map_append]
  simp
theorem rulesOf_len (P : List (CubeT × Int)) : (rulesOf P).length = P.length := by simp [rulesOf]
theorem pairs_take {R : List Ent} {k : Nat} {x : Ent} (h : R[k]? = some x) : pairsT (R.take (k + 1)) = pairsT (R.take k) ++ pq8 x := by
  unfold pairsT
  rw [List.take_add_one, h]
  simp
theorem pairs_le (R : List Ent) (k : Nat) : (pairsT (R.take k)).length ≤ (pairsT R).length := by
  conv => rhs; rw [← List.take_append_drop k R]
  unfold pairsT
  rw [List.flatMap_append, List.length_append]
  omega
theorem pairs_part {R : List Ent} {k : Nat} {x : Ent} (h : R[k]? = some x) (j : Nat) : (pairsT (R.take k) ++ (pq8 x).take j).length ≤ (pairsT R).length := by
  have h1 := pairs_le R (k + 1)
  rw [pairs_take h, List.length_append] at h1
  rw [List.length_append, List.length_take]
  omega
theorem pq_at {x : Ent} {j : Nat} {c : CubeT} (h : (cubesT x)[j]? = some c) : (pq8 x)[j]? = some (c, x.action) := by
  unfold pq8
  rw [List.getElem?_map, h]
  rfl
theorem take_snoc {α : Type} {l : List α} {j : Nat} {c : α} (h : l[j]? = some c) : l.take (j + 1) = l.take j ++ [c] := by
  rw [List.take_add_one, h]
  rfl
theorem blk_by {w w' : World} {B : Nat} {e : TypeId} {s n : Nat} {v : Value} {xs : List Value} (hv : w.ownsRow B e s v n xs) (hg : w.grownBy w' v.ownBlock) {g : Nat} {cs : Array Value} {t : TypeId} {fr : Nat × Nat} (h : w.heap[g]? = some (.cells cs t fr)) (hne : t ≠ e) : w'.heap[g]? = some (.cells cs t fr) := by
  refine (hg.block g (Array.getElem?_eq_some_iff.1 h).1 fun hq => ?_).trans h
  obtain ⟨_, ⟨rfl, _⟩ | ⟨g1, cap, cur, rfl, _, h1, _⟩⟩ := hv
  · cases hq
  · simp only [Value.ownBlock, Option.some.injEq] at hq
    subst hq
    rw [h] at h1
    simp at h1
    exact hne h1.2.1
theorem own_by8 {w w' : World} {B B' : Nat} {e e' : TypeId} {s s' n n' : Nat} {v u : Value} {xs ys : List Value} (hv : w.ownsRow B e s v n xs) (hg : w.grownBy w' v.ownBlock) (h : w.ownsRow B' e' s' u n' ys) (hne : e ≠ e') : w'.ownsRow B' e' s' u n' ys := own_grown hg h (fun g hq => own_apart hv h hne g hq)
def okQ (P : List (CubeT × Int)) : Prop := ∀ q ∈ P, Byt q.1.1 ∧ Byt q.1.2
theorem okQ_rules {P : List (CubeT × Int)} (h : okQ P) : ∀ r ∈ rulesOf P, okR8 r := fun r hr => by
  unfold rulesOf at hr
  obtain ⟨q, hq, rfl⟩ := List.mem_map.1 hr
  have := List.mem_zipIdx hq
  exact h q.1 (by rw [this.2.2]; exact List.getElem_mem _)
theorem okQ_pairs (R : List Ent) : okQ (pairsT R) := fun q hq => by
  unfold pairsT pq8 at hq
  obtain ⟨x, _, hq⟩ := List.mem_flatMap.1 hq
  obtain ⟨c, hc, rfl⟩ := List.mem_map.1 hq
  exact cubes_byts x c hc

theorem rowsOf_len {l R : List Ent} (h : RowsOf l R) : R.length = l.length := by
  obtain ⟨S, h1, rfl⟩ := h
  rw [List.length_append, h1.len]
  have : ∀ m : List Ent, (m.filter fun x => !x.dflt).length + (m.filter fun x => x.dflt).length = m.length := fun m => by
    induction m with
    | nil => rfl
    | cons x m ih => cases hd : x.dflt <;> simp [hd] <;> omega
  exact this l
/-- What Expand answers. -/
def ExpR (B : Nat) (w : World) (R : List Ent) (m : Int) (e : Ending) : Prop :=
  (∃ u, e = .returned (.tuple #[u, .int .i64 0]) ∧ (pairsT R).length ≤ bnd4 m ∧ w.ownsRow B 39 28 u (rulesOf (pairsT R)).length (gcells ruleV (rulesOf (pairsT R)))) ∨ (e = .returned (.tuple #[.slice none 0 0, .int .i64 4]) ∧ bnd4 m < (pairsT R).length)

set_option maxHeartbeats 16000000 in
set_option maxRecDepth 100000 in
theorem expand_any (l : List Ent) (h320 : ∀ x ∈ l, ent32 x) (hn : l.length ≤ 100000) (m : Int) (vl : Value) (w : World) (hl : EntsAt w vl l) (hP : Places w) :
    Calls Tryz.prog 6 #[vl, .int .i64 m] w fun e w' => (∃ R, RowsOf l R ∧ ExpR w.heap.size w' R m e) ∧ Below w.heap.size w w' := by
  have RW : Hid (Calls Tryz.prog 15 #[vl] w fun e w' => (∃ v R, e = .returned v ∧ RowsOf l R ∧ w'.ownsRow w.heap.size 35 12 v R.length (gcells entV R)) ∧ Below w.heap.size w w') := rows_any l vl w hl hn
  have CU : Hid (∀ (x : Ent) W, ent32 x → Below w.heap.size w W → Calls Tryz.prog 16 #[.agg (entV x)] W fun e w' => (∃ v, e = .returned v ∧ w'.ownsRow W.heap.size 37 26 v (cubesT x).length (ccells (cubesT x))) ∧ Below W.heap.size W w') := fun x W h1 h2 => cubes_any x h1 W (hP.later hP.pos h2)
  have H32 : Hid (∀ x ∈ l, ent32 x) := h320
  obtain ⟨mx, hmx⟩ : ∃ mx, mx = max m 0 := ⟨_, rfl⟩
  have HMX : Hid (mx = max m 0) := hmx
  obtain ⟨b, hb⟩ : ∃ b, b = bnd4 m := ⟨_, rfl⟩
  have HMN : Hid ((b : Int) = min mx 2048) := by show _ = _; rw [hb, bnd4_eq, hmx]
  have hb2 : b ≤ 2048 := by rw [hb]; exact bnd4_le m
  have HBE : Hid (b = bnd4 m) := hb
  clear h320 hl hP hmx hb
  go_enter Tryz.func6, Tryz.ntmps6
  go_wp2_with (first
    | (refine wl_maxI rfl _ _ rfl m 0 mx rfl rfl HMX.out ?_)
    | (refine wl_minI rfl _ _ rfl mx 2048 (b : Int) rfl rfl HMN.out ?_))
  refine RW.out.mono ?_
  rintro e w1 ⟨⟨vR, R, rfl, hR, hown⟩, hb1⟩
  have HR : Hid (RowsOf l R) := hR
  have OR : Hid (w1.ownsRow w.heap.size 35 12 vR R.length (gcells entV R)) := hown
  have B1 : Hid (Below w.heap.size w w1) := hb1
  obtain ⟨oR, cR, rfl⟩ := gown_slice hown
  obtain ⟨nR, hnR⟩ : ∃ n, n = R.length := ⟨_, rfl⟩
  have HNR : Hid (nR = R.length) := hnR
  rw [← hnR] at OR ⊢
  have hnR2 : nR ≤ 100000 := by rw [hnR, rowsOf_len hR]; exact hn
  clear hR hown hb1 RW
  go_wp2_with fail
  go_loopw [6, 17] (fun v i wr => ∃ (k : Nat) (Q : List (CubeT × Int)), k ≤ nR ∧ i = .int .i64 (k : Int) ∧ Hid (Q = pairsT (R.take k)) ∧ Q.length ≤ b ∧ wr.ownsRow w.heap.size 39 28 v (rulesOf Q).length (gcells ruleV (rulesOf Q)) ∧ wr.ownsRow w.heap.size 35 12 (.slice oR nR cR) nR (gcells entV R) ∧ Below w.heap.size w wr) (fun _ i _ => nR - (intOf i).toNat)
  case atStart => exact ⟨0, [], Nat.zero_le _, rfl, rfl, Nat.zero_le _, World.ownsRow_nil _ _ _ _, OR.out, B1.out⟩
  case round =>
    clear OR B1
    obtain ⟨k, Q, hk, rfl, HQ, hQb, ho, hr, hb⟩ := hrel
    have HO : Hid (wr.ownsRow w.heap.size 39 28 u6 (rulesOf Q).length (gcells ruleV (rulesOf Q))) := ho
    have OR : Hid (wr.ownsRow w.heap.size 35 12 (.slice oR nR cR) nR (gcells entV R)) := hr
    have HB : Hid (Below w.heap.size w wr) := hb
    clear ho hr hb
    by_cases hlt : k < nR
    · have hlt' : (k : Int) < (nR : Int) := by omega
      have hsl : EntsAt wr (.slice oR nR cR) R := by
        have := OR.out
        rw [HNR.out] at this ⊢
        exact gsl_of (E := EntE) this fun _ _ => rfl
      obtain ⟨g, off, cur, ty, fr, x, rfl, hg, hc, hxk⟩ := hsl.at k hlt
      have K1 : Hid (wr.heap[g]? = some (.cells cur ty fr)) := hg
      have H1 : Hid (∀ j, j < 12 → cur[off + k * 12 + j]? = (entV x)[j]?) := hc
      have HX : Hid (R[k]? = some x) := hxk
      have HX2 : Hid (ent32 x) := H32.out x ((HR.out.mem x).1 (List.mem_of_getElem? hxk))
      have KN : Hid ((wr.alloc (.cells (entV x) 35)).heap[wr.heap.size]? = some (.cells (entV x) 35 (0, 0))) := heap_new _ _ _ rfl
      have BN : Hid (Below w.heap.size w (wr.alloc (.cells (entV x) 35))) := HB.out.alloc HB.out.size _
      have HLT : Hid (k < nR) := hlt
      clear hg hc hxk hsl hlt
      go_wp2_with (first
        | (refine wl_loadE (E := EntE) EntOk rfl _ rfl g (off + k * 12) rfl cur ty fr (entV x) rfl K1.out H1.out ?_)
        | (refine wl_loadE (E := EntE) EntOk rfl _ rfl wr.heap.size 0 rfl _ _ _ (entV x) rfl KN.out (own_cells _ _) ?_)
        | (refine wl_storeE (E := EntE) EntOk rfl _ _ rfl wr.heap.size (entV x) (ent_fits _) rfl rfl _ (heap_new _ _ _ rfl) rfl _ (setRow_new _ _ _ _ _ rfl) ?_))
      refine (CU.out x _ HX2.out BN.out).mono ?_
      rintro e w2 ⟨⟨vc, rfl, hoc⟩, hb2'⟩
      obtain ⟨gx, hgx⟩ : ∃ gx, gx = wr.heap.size := ⟨_, rfl⟩
      have KX : Hid (w2.heap[gx]? = some (.cells (entV x) 35 (0, 0))) := by rw [hgx]; exact (hb2'.block _ (by simp)).trans KN.out
      have BX : Hid (Below w.heap.size w w2) := BN.out.trans (hb2'.mono BN.out.size)
      have OX : Hid (w2.ownsRow w.heap.size 39 28 u6 (rulesOf Q).length (gcells ruleV (rulesOf Q))) := gown_below (HO.out.alloc _) hb2'
      have RX : Hid (w2.ownsRow w.heap.size 35 12 (.slice (some ⟨g, off, none⟩) nR cR) nR (gcells entV R)) := gown_below (OR.out.alloc _) hb2'
      have CX : Hid (w2.ownsRow w.heap.size 37 26 vc (cubesT x).length (ccells (cubesT x))) := gown_base hoc BN.out.size
      obtain ⟨oc, cc, rfl⟩ := gown_slice hoc
      obtain ⟨nc, hnc⟩ : ∃ n, n = (cubesT x).length := ⟨_, rfl⟩
      have HNC : Hid (nc = (cubesT x).length) := hnc
      have hnc2 : nc ≤ 1000 := by rw [hnc]; exact cubes_few x
      rw [← hnc] at CX ⊢
      rw [← hgx]
      clear hoc hb2' hnc hgx HO OR HB KN BN K1
      go_wp2_with fail
      go_loopw [6, 24] (fun v i w3 => ∃ (j : Nat) (P : List (CubeT × Int)), j ≤ nc ∧ i = .int .i64 (j : Int) ∧ Hid (P = Q ++ (pq8 x).take j) ∧ P.length ≤ b ∧ w3.ownsRow w.heap.size 39 28 v (rulesOf P).length (gcells ruleV (rulesOf P)) ∧ w3.ownsRow w.heap.size 35 12 (.slice (some ⟨g, off, none⟩) nR cR) nR (gcells entV R) ∧ w3.ownsRow w.heap.size 37 26 (.slice oc nc cc) nc (ccells (cubesT x)) ∧ w3.heap[gx]? = some (.cells (entV x) 35 (0, 0)) ∧ Below w.heap.size w w3) (fun _ i _ => nc - (intOf i).toNat)
      case atStart => exact ⟨0, Q, Nat.zero_le _, rfl, by show _ = _; simp, hQb, OX.out, RX.out, CX.out, KX.out, BX.out⟩
      case round =>
        clear OX RX CX KX BX
        obtain ⟨j, P, hj, rfl, HPE, hPb, ho, hr, hcx, hkx, hbx⟩ := hrel
        have OX : Hid (wr.ownsRow w.heap.size 39 28 u6 (rulesOf P).length (gcells ruleV (rulesOf P))) := ho
        have RX : Hid (wr.ownsRow w.heap.size 35 12 (.slice (some ⟨g, off, none⟩) nR cR) nR (gcells entV R)) := hr
        have CX : Hid (wr.ownsRow w.heap.size 37 26 (.slice oc nc cc) nc (ccells (cubesT x))) := hcx
        have KX : Hid (wr.heap[gx]? = some (.cells (entV x) 35 (0, 0))) := hkx
        have BX : Hid (Below w.heap.size w wr) := hbx
        obtain ⟨oP, cP, rfl⟩ := gown_slice ho
        clear ho hr hcx hkx hbx
        by_cases hjt : j < nc
        · have hjt' : (j : Int) < (nc : Int) := by omega
          have hsl : Sl wr (.slice oc nc cc) (cubesT x) := by
            have := CX.out
            rw [HNC.out] at this ⊢
            exact sl_of this (cubes_byts x)
          obtain ⟨g2, off2, cur2, ty2, fr2, U, N, rfl, hg2, hc2', hcj, hU, hN⟩ := hsl.at j hjt
          have hUl := hU.1
          have hNl := hN.1
          have HUN : Hid (Byt U ∧ Byt N) := ⟨hU, hN⟩
          have K2 : Hid (wr.heap[g2]? = some (.cells cur2 ty2 fr2)) := hg2
          have H2 : Hid (∀ q, q < 26 → cur2[off2 + j * 26 + q]? = (cv U N)[q]?) := hc2'
          have HCJ : Hid ((pq8 x)[j]? = some ((U, N), x.action)) := pq_at hcj
          have KC : Hid ((wr.alloc (.cells (cv U N) 37)).heap[wr.heap.size]? = some (.cells (cv U N) 37 (0, 0))) := heap_new _ _ _ rfl
          have KE : Hid ((wr.alloc (.cells (cv U N) 37)).heap[gx]? = some (.cells (entV x) 35 (0, 0))) := heap_past _ _ _ _ KX.out
          have ce : (wr.alloc (.cells (cv U N) 37)).cell? ⟨gx, 11, none⟩ = some (.int .i64 x.action) := by rw [cell_of_row _ _ _ _ _ _ KE.out]; rfl
          have PL : Hid ((rulesOf P).length = P.length) := rulesOf_len P
          obtain ⟨nP, hnP⟩ : ∃ n, n = (rulesOf P).length := ⟨_, rfl⟩
          have HNP : Hid (nP = (rulesOf P).length) := hnP
          have hnPb : nP ≤ b := by rw [hnP, PL.out]; exact hPb
          rw [← hnP]
          clear hg2 hc2' hcj hU hN hsl hnP
          by_cases hfull : nP = b
          · have hfull' : ((nP : Int) == (b : Int)) = true := by simp [hfull]
            have HERR : Hid (bnd4 m < (pairsT R).length) := by
              have h1 := pairs_part HX.out (j + 1)
              rw [take_snoc HCJ.out, ← List.append_assoc, ← HQ.out, ← HPE.out, List.length_append] at h1
              have h2 := HNP.out
              have h3 := PL.out
              have h4 := HBE.out
              simp only [List.length_cons, List.length_nil] at h1
              show _ < _
              omega
            clear hfull
            go_wp2_with (first
              | (refine wl_loadCat rfl _ rfl g2 (off2 + j * 26) rfl cur2 ty2 fr2 U N hUl hNl K2.out H2.out ?_)
              | (refine wl_storeC rfl _ _ rfl wr.heap.size U N rfl rfl _ (heap_new _ _ _ rfl) rfl hUl hNl _ (setRow_new _ _ _ _ _ rfl) ?_))
            go_ret2
            exact ⟨⟨R, HR.out, .inr ⟨rfl, HERR.out⟩⟩, BX.out.alloc BX.out.size _⟩
          · have hfull' : ((nP : Int) == (b : Int)) = false := by simp; omega
            have HPN : Hid (P ++ [((U, N), x.action)] = Q ++ (pq8 x).take (j + 1)) := by
              show _ = _
              rw [take_snoc HCJ.out, ← List.append_assoc, ← HPE.out]
            have HRN : Hid (rulesOf (P ++ [((U, N), x.action)]) = rulesOf P ++ [⟨(nP : Int), (U, N), x.action⟩]) := by
              show _ = _
              rw [rulesOf_snoc, HNP.out, PL.out]
            have HRK : Hid (okR8 ⟨(nP : Int), (U, N), x.action⟩) := HUN.out
            have hsz := ruleV_size HRK.out
            have BB : Hid (Below wr.heap.size wr ((wr.alloc (.cells (cv U N) 37)).alloc (.cells (ruleV ⟨(nP : Int), (U, N), x.action⟩) 39))) := ((Below.refl _ _).alloc (Nat.le_refl _) _).alloc (by simp) _
            have OB : Hid (((wr.alloc (.cells (cv U N) 37)).alloc (.cells (ruleV ⟨(nP : Int), (U, N), x.action⟩) 39)).ownsRow w.heap.size 39 28 (.slice oP nP cP) (rulesOf P).length (gcells ruleV (rulesOf P))) := by
              have := gown_below OX.out BB.out
              rw [← HNP.out] at this ⊢; exact this
            clear hfull
            go_wp2_with (first
              | (refine wl_loadCat rfl _ rfl g2 (off2 + j * 26) rfl cur2 ty2 fr2 U N hUl hNl K2.out H2.out ?_)
              | (refine wl_storeC rfl _ _ rfl wr.heap.size U N rfl rfl _ (heap_new _ _ _ rfl) rfl hUl hNl _ (setRow_new _ _ _ _ _ rfl) ?_)
              | (refine wl_loadC rfl _ rfl wr.heap.size rfl U N KC.out hUl hNl ?_)
              | (refine wl_buildR rfl _ _ _ rfl (nP : Int) U N x.action hUl hNl rfl rfl rfl ?_)
              | (refine wl_buildE (E := RuleE) RuleOk rfl _ rfl (ruleV ⟨(nP : Int), (U, N), x.action⟩) hsz rfl ?_)
              | (at_builtin; refine of_stopT ?_))
            unfold StopT
            refine wl_appendE (E := RuleE) RuleOk ruleV rfl _ _ rfl w.heap.size (.slice oP nP cP) (rulesOf P) ⟨(nP : Int), (U, N), x.action⟩ (rule_fits HRK.out) rfl OB.out (wr.heap.size + 1) 1 rfl (heap_new _ _ _ (by simp)) (by have := HNP.out; omega) (by have := BX.out.size; simp; omega) ?_
            intro v' w3 hown3 hgr3 _
            have B3 : Hid (Below w.heap.size w w3) := (BX.out.trans (BB.out.mono BX.out.size)).trans ((Below.refl _ _).grown hgr3 (BX.out.trans (BB.out.mono BX.out.size)).size fun k hk => (OB.out.lt k hk).1)
            have O3 : Hid (w3.ownsRow w.heap.size 39 28 v' (rulesOf (P ++ [((U, N), x.action)])).length (gcells ruleV (rulesOf (P ++ [((U, N), x.action)])))) := by rw [HRN.out]; exact hown3
            have R3 : Hid (w3.ownsRow w.heap.size 35 12 (.slice (some ⟨g, off, none⟩) nR cR) nR (gcells entV R)) := own_by8 OB.out hgr3 (gown_below RX.out BB.out) (by decide)
            have C3 : Hid (w3.ownsRow w.heap.size 37 26 (.slice (some ⟨g2, off2, none⟩) nc cc) nc (ccells (cubesT x))) := own_by8 OB.out hgr3 (gown_below CX.out BB.out) (by decide)
            have K3 : Hid (w3.heap[gx]? = some (.cells (entV x) 35 (0, 0))) := blk_by OB.out hgr3 ((BB.out.block _ (Array.getElem?_eq_some_iff.1 KX.out).1).trans KX.out) (by decide)
            clear hown3 hgr3
            simp only [Act.put, List.setIfInBounds_toArray, List.set_cons_succ, List.set_cons_zero]
            go_wp2_with fail
            go_roundw
            case rel => exact ⟨j + 1, P ++ [((U, N), x.action)], by omega, by go_num, HPN.out, by have h1 := HNP.out; have h2 := PL.out; simp at hfull' ⊢; omega, O3.out, R3.out, C3.out, K3.out, B3.out⟩
            case measure => simp [intOf]; omega
        · have hjt' : ¬ (j : Int) < (nc : Int) := by omega
          have HE : Hid (P = pairsT (R.take (k + 1))) := by
            have h1 := HNC.out
            show _ = _
            rw [pairs_take HX.out, ← HQ.out, HPE.out, List.take_of_length_le (by unfold pq8; rw [List.length_map]; omega)]
          go_wp2_with fail
          go_roundw
          case rel =>
            have := HLT.out
            exact ⟨k + 1, P, by omega, by go_num, HE.out, hPb, OX.out, RX.out, BX.out⟩
          case measure =>
            have := HLT.out
            simp [intOf]; omega
    · have hlt' : ¬ (k : Int) < (nR : Int) := by omega
      have HE : Hid (Q = pairsT R) := by
        have e := HNR.out
        show _ = _
        rw [HQ.out, List.take_of_length_le (by omega)]
      go_wp2_with fail
      go_ret2
      refine ⟨⟨R, HR.out, .inl ⟨_, rfl, ?_, ?_⟩⟩, HB.out⟩
      · rw [← HE.out, ← HBE.out]; exact hQb
      · rw [← HE.out]; exact HO.out
end Go.Proofs.YthddlchkbnmcaaaGreatDoor
