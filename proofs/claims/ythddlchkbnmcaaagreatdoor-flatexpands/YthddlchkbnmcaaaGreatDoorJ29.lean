import Derived.Test.YthddlchkbnmcaaaGreatDoorJ22
namespace Go.Proofs.YthddlchkbnmcaaaGreatDoor
open Go Go.RowKit
set_option maxRecDepth 20000

/-- A clause behind its word: what its numbers come to. -/
def addrC (E : Nat) (t : Tok) (T : List Tok) : Res (Cla × List Tok) := (addrT E T).bind fun y => (takeO E 4 y.2).map fun z => (⟨t.text, (t.pos : Int), y.1 ++ z.1.toList, z.1.isSome, false⟩, z.2)
def portC6 (E : Nat) (t : Tok) (T : List Tok) : Res (Cla × List Tok) := (takeF E T).bind fun x => (takeO E 5 x.2).map fun z => (⟨t.text, (t.pos : Int), x.1 :: z.1.toList, false, z.1.isSome⟩, z.2)
def protC (E : Nat) (t : Tok) (T : List Tok) : Res (Cla × List Tok) := (takeF E T).map fun x => (⟨t.text, (t.pos : Int), [x.1], false, false⟩, x.2)
theorem takeD_len {E : Nat} : ∀ (n : Nat) {T : List Tok} {F : List Fig} {T1 : List Tok}, takeD E n T = .ok (F, T1) → F.length = n
  | 0, T, F, T1, h => by
    have h' : (Except.ok (([] : List Fig), T) : Res (List Fig × List Tok)) = .ok (F, T1) := h
    cases h'
    rfl
  | n + 1, T, F, T1, h => by
    rw [takeD] at h
    cases hK : takeK E 3 T with
    | error x => rw [hK] at h; cases h
    | ok x =>
      rw [hK] at h
      have h1 : ((takeF E x.2).bind fun y => (takeD E n y.2).map fun z => (y.1 :: z.1, z.2)) = .ok (F, T1) := h
      cases hF : takeF E x.2 with
      | error y => rw [hF] at h1; cases h1
      | ok y =>
        rw [hF] at h1
        have h2 : ((takeD E n y.2).map fun z => (y.1 :: z.1, z.2)) = .ok (F, T1) := h1
        cases hD : takeD E n y.2 with
        | error z => rw [hD] at h2; cases h2
        | ok z =>
          rw [hD] at h2
          have h3 : (Except.ok (y.1 :: z.1, z.2) : Res (List Fig × List Tok)) = .ok (F, T1) := h2
          simp at h3
          rw [← h3.1, List.length_cons, takeD_len n (F := z.1) (T1 := z.2) hD]
theorem addrT_len {E : Nat} {T : List Tok} {F : List Fig} {T1 : List Tok} (h : addrT E T = .ok (F, T1)) : F.length = 4 := by
  unfold addrT at h
  cases hF : takeF E T with
  | error y => rw [hF] at h; cases h
  | ok y =>
    rw [hF] at h
    have h2 : ((takeD E 3 y.2).map fun z => (y.1 :: z.1, z.2)) = .ok (F, T1) := h
    cases hD : takeD E 3 y.2 with
    | error z => rw [hD] at h2; cases h2
    | ok z =>
      rw [hD] at h2
      have h3 : (Except.ok (y.1 :: z.1, z.2) : Res (List Fig × List Tok)) = .ok (F, T1) := h2
      simp at h3
      rw [← h3.1, List.length_cons, takeD_len 3 (F := z.1) (T1 := z.2) hD]
theorem rdO_no {E k : Nat} {T : List Tok} (h : (hd E T).kind ≠ k) : takeO E k T = .ok (none, T) ∧ follT E k T = .ok (false, T) := by
  refine ⟨?_, if_neg h⟩
  cases T with
  | nil => rfl
  | cons t T => exact if_neg h
theorem rdO_yes {E k : Nat} (hk : k ≠ 0) {T : List Tok} (h : (hd E T).kind = k) : ∃ T', takeO E k T = (takeF E T').map (fun y => (some y.1, y.2)) ∧ follT E k T = .ok (true, T') := by
  cases T with
  | nil => exact absurd h.symm hk
  | cons t T => exact ⟨T, if_pos h, if_pos h⟩
/-- A clause that was made: its numbers lie in a row of their own. -/
def ClaR (B : Nat) (w : World) (c : Cla) (v : Value) : Prop := ∃ u, v = .agg (claV c u) ∧ FigsOwn B w c.nums u
theorem cla_fits (c : Cla) (u : Value) (hu : ∃ o n k, u = .slice o n k) : Fits ClaE (claV c u) := by
  obtain ⟨o, n, k, rfl⟩ := hu
  exact ⟨rfl, by simp [claV, Value.oneCell']⟩
theorem own_set {w : World} {B : Nat} {e e' : TypeId} {s : Nat} {v : Value} {n : Nat} {xs : List Value} (h : w.ownsRow B e s v n xs) {p i : Nat} {cs : Array Value} {fr : Nat × Nat} (hp : w.heap[p]? = some (.cells cs e' fr)) (hne : e ≠ e') (y : Value) : (w.setCell ⟨p, i, none⟩ y).ownsRow B e s v n xs := by
  obtain ⟨h0, h1 | ⟨g, cap, cur, rfl, hB, hcur, h3⟩⟩ := h
  · exact ⟨h0, .inl h1⟩
  · refine ⟨h0, .inr ⟨g, cap, cur, rfl, hB, ?_, h3⟩⟩
    rw [tc_far (by rintro rfl; rw [hp] at hcur; simp only [Option.some.injEq, Obj.cells.injEq] at hcur; exact hne hcur.2.1.symm) y]
    exact hcur
theorem own_setRow6 {w : World} {B : Nat} {e e' : TypeId} {s : Nat} {v : Value} {n : Nat} {xs : List Value} (h : w.ownsRow B e s v n xs) {p : Nat} {cs : Array Value} {fr : Nat × Nat} (hp : w.heap[p]? = some (.cells cs e' fr)) (hne : e ≠ e') (ys : Array Value) : (w.setRow p ys).ownsRow B e s v n xs := by
  obtain ⟨h0, h1 | ⟨g, cap, cur, rfl, hB, hcur, h3⟩⟩ := h
  · exact ⟨h0, .inl h1⟩
  · refine ⟨h0, .inr ⟨g, cap, cur, rfl, hB, ?_, h3⟩⟩
    rw [setRow_other _ _ _ _ (by rintro rfl; rw [hp] at hcur; simp only [Option.some.injEq, Obj.cells.injEq] at hcur; exact hne hcur.2.1.symm)]
    exact hcur

set_option maxHeartbeats 4000000 in
set_option maxRecDepth 10000 in
theorem clause_src (W0 w : World) (g E : Nat) (t : Tok) (ht : t.text = wSrc) (T : List Tok) (h : Rd W0 w g E T) :
    Calls Tryz.prog 115 #[.pointer (some ⟨g, 0, none⟩), .agg (encT t)] w fun e w' => Took W0 w g E (ClaR w.heap.size) (addrC E t T) e w' := by
  have CF : Hid (∀ W T, Rd W0 W g E T → Calls Tryz.prog 96 #[.pointer (some ⟨g, 0, none⟩)] W fun e w' => Took W0 W g E (fun _ f v => v = .agg (figV f)) (takeF E T) e w') := fun W T h => figure_any W0 W g E T h
  have CA : Hid (∀ W T, Rd W0 W g E T → Calls Tryz.prog 122 #[.pointer (some ⟨g, 0, none⟩)] W fun e w' => Took W0 W g E (FigsOwn W.heap.size) (addrT E T) e w') := fun W T h => address_any W0 W g E T h
  have C4 : Hid (∀ W T, Rd W0 W g E T → Calls Tryz.prog 123 #[.pointer (some ⟨g, 0, none⟩), .int .i64 4] W fun e w' => Took W0 W g E (fun _ b v => v = .bool b) (follT E 4 T) e w') := fun W T h => follows_any W0 W g E 4 (by decide) T h
  have C5 : Hid (∀ W T, Rd W0 W g E T → Calls Tryz.prog 123 #[.pointer (some ⟨g, 0, none⟩), .int .i64 5] W fun e w' => Took W0 W g E (fun _ b v => v = .bool b) (follT E 5 T) e w') := fun W T h => follows_any W0 W g E 5 (by decide) T h
  have hgl := h.size
  have e0 : (t.text == [115, 114, 99]) = true := by rw [ht]; rfl
  have H : Hid (Rd W0 w g E T) := h
  obtain ⟨A, hA⟩ : ∃ A, A = addrC E t T := ⟨_, rfl⟩
  rw [← hA]
  unfold addrC at hA
  have q1 := fun x => tok_cells (heap_past _ x _ _ (heap_new w (.cells (encT t) 117) _ rfl))
  have q2 := fun x y => tok_cells (heap_past _ y _ _ (heap_past _ x _ _ (heap_new w (.cells (encT t) 117) _ rfl)))
  have t1 := fun x => (q1 x).2.1
  have t2 := fun x => (q1 x).2.2.1
  have t5 := fun x y => (q2 x y).2.1
  have t6 := fun x y => (q2 x y).2.2.1
  clear q1 q2
  clear h ht
  go_enter Tryz.func115, Tryz.ntmps115
  go_wp2_with (first
    | (refine wl_storeE (E := ClaE) ClaOk rfl _ _ rfl (w.heap.size + 2) (claV ⟨t.text, (t.pos : Int), [], false, false⟩ (.slice none 0 0)) (cla_fits _ _ ⟨_, _, _, rfl⟩) rfl rfl _ (heap_new _ _ _ (by simp)) rfl _ (setRow_new _ _ _ _ _ (by simp)) ?_))
  refine (CA.out _ T (((H.out.alloc _).alloc _).alloc _)).mono ?_
  cases hF : addrT E T with
  | error x =>
    obtain ⟨c, q⟩ := x
    have HA2 : Hid (A = .error (c, q)) := by show _ = _; rw [hA, hF]; rfl
    clear hA hF
    rintro e w1 ⟨hg1, rfl⟩
    go_wp2_with fail
    rw [HA2.out]
    exact ⟨rfl, grown_trans (gb_alloc (gb_alloc (gb_alloc (gb_refl w g) _) _) _) hg1, rfl⟩
  | ok x =>
    obtain ⟨F, T1⟩ := x
    have HA : Hid (A = (takeO E 4 T1).map fun z => ((⟨t.text, (t.pos : Int), F ++ z.1.toList, z.1.isSome, false⟩ : Cla), z.2)) := by show _ = _; rw [hA, hF]; rfl
    have HFL : Hid (F.length = 4) := addrT_len hF
    clear hA
    rintro e w1 ⟨hg1, ⟨u, rfl, hown1⟩, R1⟩
    obtain ⟨o, cap, rfl⟩ := gown_slice hown1
    have OWN1 : Hid (w1.ownsRow w.heap.size 89 2 (.slice o F.length cap) F.length (gcells figV F)) := gown_base hown1 (by simp; omega)
    have G1 : w.grownBy w1 (some g) := grown_trans (gb_alloc (gb_alloc (gb_alloc (gb_refl w g) _) _) _) hg1
    have z1 : w.heap.size + 3 ≤ w1.heap.size := by have := hg1.size; simp at this; omega
    have r1 : w1.heap[w.heap.size + 1]? = some (.cells (claV ⟨[], 0, [], false, false⟩ (.slice none 0 0)) 129 (0, 0)) := (hg1.block _ (by simp) (by simp; omega)).trans (heap_past _ _ _ _ (heap_new _ _ _ (by simp)))
    have rP : w1.heap[(w.heap.size + 1 + 1)]? = some (.cells (claV ⟨t.text, (t.pos : Int), [], false, false⟩ (.slice none 0 0)) 129 (0, 0)) := (hg1.block _ (by simp) (by simp; omega)).trans (heap_new _ _ _ (by simp))
    have c2 : w1.cell? ⟨(w.heap.size + 1 + 1), 2, none⟩ = some (.slice none 0 0) := by rw [cell_of_row _ _ _ _ _ _ rP]; rfl
    have f2 : w1.frozen? ⟨(w.heap.size + 1 + 1), 2, none⟩ = false := tc_frozen rP rfl
    have R1' : Rd W0 (w1.setCell ⟨(w.heap.size + 1 + 1), 2, none⟩ (.slice o F.length cap)) g E T1 := rd_setCell R1 (by omega) (by omega) _ _
    have G1' : w.grownBy (w1.setCell ⟨(w.heap.size + 1 + 1), 2, none⟩ (.slice o F.length cap)) (some g) := gb_setCell G1 (.inr (by omega)) _ _
    have rP' : (w1.setCell ⟨(w.heap.size + 1 + 1), 2, none⟩ (.slice o F.length cap)).heap[(w.heap.size + 1 + 1)]? = some (.cells (claV ⟨t.text, (t.pos : Int), [], false, false⟩ (.slice o F.length cap)) 129 (0, 0)) := tc_row rP _
    have r1' : (w1.setCell ⟨(w.heap.size + 1 + 1), 2, none⟩ (.slice o F.length cap)).heap[w.heap.size + 1]? = some (.cells (claV ⟨[], 0, [], false, false⟩ (.slice none 0 0)) 129 (0, 0)) := (tc_far (by omega) _).trans r1
    have OWN2 : Hid ((w1.setCell ⟨(w.heap.size + 1 + 1), 2, none⟩ (.slice o F.length cap)).ownsRow w.heap.size 89 2 (.slice o F.length cap) F.length (gcells figV F)) := own_set OWN1.out rP (by decide) _
    have KP : Hid (_ ∧ _ ∧ _ ∧ _) := ⟨R1', G1', rP', r1'⟩
    clear R1 G1 rP r1 R1' G1' rP' r1' OWN1 hg1 hF
    go_wp2_with fail
    refine (C4.out _ T1 KP.out.1).mono ?_
    by_cases hk : (hd E T1).kind = 4
    · obtain ⟨T2, hO, hf4⟩ := rdO_yes (by decide) hk
      rw [hf4]
      rw [hO] at HA
      clear hk hO hf4 c2 f2
      rintro e w2 ⟨hg2, ⟨v, rfl, rfl⟩, R2⟩
      have z2 : w1.heap.size ≤ w2.heap.size := by have := hg2.size; rw [tc_size] at this; simpa using this
      have rP2 : w2.heap[(w.heap.size + 1 + 1)]? = some (.cells (claV ⟨t.text, (t.pos : Int), [], false, false⟩ (.slice o F.length cap)) 129 (0, 0)) := (hg2.block _ (by rw [tc_size]; omega) (by simp; omega)).trans KP.out.2.2.1
      have r12 : w2.heap[w.heap.size + 1]? = some (.cells (claV ⟨[], 0, [], false, false⟩ (.slice none 0 0)) 129 (0, 0)) := (hg2.block _ (by rw [tc_size]; omega) (by simp; omega)).trans KP.out.2.2.2
      have c3 : w2.cell? ⟨(w.heap.size + 1 + 1), 3, none⟩ = some (.bool false) := by rw [cell_of_row _ _ _ _ _ _ rP2]; rfl
      have f3 : w2.frozen? ⟨(w.heap.size + 1 + 1), 3, none⟩ = false := tc_frozen rP2 rfl
      have rP3 : (w2.setCell ⟨(w.heap.size + 1 + 1), 3, none⟩ (.bool true)).heap[(w.heap.size + 1 + 1)]? = some (.cells (claV ⟨t.text, (t.pos : Int), [], true, false⟩ (.slice o F.length cap)) 129 (0, 0)) := tc_row rP2 _
      have r13 : (w2.setCell ⟨(w.heap.size + 1 + 1), 3, none⟩ (.bool true)).heap[w.heap.size + 1]? = some (.cells (claV ⟨[], 0, [], false, false⟩ (.slice none 0 0)) 129 (0, 0)) := (tc_far (by omega) _).trans r12
      have R3 : Rd W0 (w2.setCell ⟨(w.heap.size + 1 + 1), 3, none⟩ (.bool true)) g E T2 := rd_setCell R2 (by omega) (by omega) _ _
      have G3 : w.grownBy (w2.setCell ⟨(w.heap.size + 1 + 1), 3, none⟩ (.bool true)) (some g) := gb_setCell (grown_trans KP.out.2.1 hg2) (.inr (by omega)) _ _
      have OWN3 : Hid ((w2.setCell ⟨(w.heap.size + 1 + 1), 3, none⟩ (.bool true)).ownsRow w.heap.size 89 2 (.slice o F.length cap) F.length (gcells figV F)) := own_set (own_by hg2 hgl.2 OWN2.out) rP2 (by decide) _
      have d3 : (w2.setCell ⟨(w.heap.size + 1 + 1), 3, none⟩ (.bool true)).cell? ⟨(w.heap.size + 1 + 1), 3, none⟩ = some (.bool true) := by rw [cell_of_row _ _ _ _ _ _ rP3]; rfl
      have d4 : (w2.setCell ⟨(w.heap.size + 1 + 1), 3, none⟩ (.bool true)).cell? ⟨(w.heap.size + 1 + 1), 4, none⟩ = some (.bool false) := by rw [cell_of_row _ _ _ _ _ _ rP3]; rfl
      have K3 : Hid (_ ∧ _ ∧ _ ∧ _) := ⟨R3, G3, rP3, r13⟩
      clear hg2 R2 rP2 r12 rP3 r13 R3 G3 OWN2 KP
      go_wp2_with fail
      obtain ⟨w4, hw4⟩ : ∃ w4, w4 = w2.setCell ⟨(w.heap.size + 1 + 1), 3, none⟩ (.bool true) := ⟨_, rfl⟩
      rw [← hw4] at K3 OWN3 ⊢
      have z4 : w4.heap.size = w2.heap.size := by rw [hw4, tc_size]
      clear hw4 d3 d4 c3 f3
      cases hF2 : takeF E T2 with
      | error x =>
        obtain ⟨c, q⟩ := x
        rw [hF2] at HA
        refine own15_panics (Nat.le_of_ble_eq_true rfl) g (w.heap.size + 1 + 1) rfl rfl _ K3.out.2.2.1 (.slice o F.length cap) rfl [{ v := faultV c q, recovered := false }] (fun w' => w.grownBy w' (some g)) ?_ ?_
        · refine (CF.out w4.drew T2 (K3.out.1.below ((Below.refl _ _).drew))).mono ?_
          rw [hF2]
          rintro e w' ⟨hg, rfl⟩
          exact ⟨rfl, grown_trans K3.out.2.1 (grown_trans (gb_drew w4 g) hg)⟩
        · intro a' w' hdf hg
          go_wp2_with fail
          rw [HA.out]
          exact ⟨hdf, hg, rfl⟩
      | ok x =>
        obtain ⟨f2, T3⟩ := x
        rw [hF2] at HA
        refine own15_region (Nat.le_of_ble_eq_true rfl) g (w.heap.size + 1 + 1) rfl rfl _ K3.out.2.2.1 (.slice o F.length cap) rfl (by omega) F w.heap.size OWN3.out (by have := HFL.out; omega) (by omega) hgl.2 f2 (fun w' => w.grownBy w' (some g) ∧ Rd W0 w' g E T3) ?_ ?_
        · refine (CF.out w4.drew T2 (K3.out.1.below ((Below.refl _ _).drew))).mono ?_
          rw [hF2]
          rintro e w' ⟨hg, ⟨v, rfl, rfl⟩, R⟩
          exact ⟨rfl, hg, grown_trans K3.out.2.1 (grown_trans (gb_drew w4 g) hg), R⟩
        · rintro a' w5 w6 v' ⟨y0, y1, y2, y3, y4, y5, y6, rfl⟩ ⟨G5, R5⟩ hg5 hgr6 hown6 hp6
          simp only [Act.put, List.setIfInBounds_toArray, List.set_cons_succ, List.set_cons_zero]
          obtain ⟨o6, cap6, rfl⟩ := gown_slice hown6
          have z5 := hg5.size
          have z6 := hgr6.size
          have own5 := own_by hg5 hgl.2 OWN3.out
          have hub : ∀ k, ((.slice o F.length cap) : Value).ownBlock = some k → w.heap.size ≤ k := fun k hk => (OWN3.out.lt k hk).1
          have r16 : w6.heap[w.heap.size + 1]? = some (.cells (claV ⟨[], 0, [], false, false⟩ (.slice none 0 0)) 129 (0, 0)) := by
            refine (hgr6.block _ (by simp; omega) ?_).trans (heap_past _ _ _ _ ((hg5.block _ (by omega) (by simp; omega)).trans K3.out.2.2.2))
            intro hq
            have hx := hq.symm
            obtain ⟨_, ⟨hv, _⟩ | ⟨g', cap', cur', hv, _, h2, _⟩⟩ := OWN3.out
            · rw [hv] at hx; simp [Value.ownBlock] at hx
            · rw [hv] at hx
              simp only [Value.ownBlock, Option.some.injEq] at hx
              rw [hx, K3.out.2.2.2] at h2
              simp at h2
          have G6 : w.grownBy w6 (some g) := gb_own (gb_alloc G5 _) hgr6 hub
          have R6 : Rd W0 w6 g E T3 := rd_own (R5.alloc _) hgr6 fun k hk => Nat.lt_of_lt_of_le hgl.2 (hub k hk)
          have rP7 : Hid ((w6.setCell ⟨(w.heap.size + 1 + 1), 2, none⟩ (.slice o6 (F ++ [f2]).length cap6)).heap[(w.heap.size + 1 + 1)]? = some (.cells (claV ⟨t.text, (t.pos : Int), F ++ [f2], true, false⟩ (.slice o6 (F ++ [f2]).length cap6)) 129 (0, 0))) := tc_row hp6 _
          have r17 : Hid ((w6.setCell ⟨(w.heap.size + 1 + 1), 2, none⟩ (.slice o6 (F ++ [f2]).length cap6)).heap[w.heap.size + 1]? = some (.cells (claV ⟨[], 0, [], false, false⟩ (.slice none 0 0)) 129 (0, 0))) := (tc_far (by omega) _).trans r16
          have OWN7 : Hid ((w6.setCell ⟨(w.heap.size + 1 + 1), 2, none⟩ (.slice o6 (F ++ [f2]).length cap6)).ownsRow w.heap.size 89 2 (.slice o6 (F ++ [f2]).length cap6) (F ++ [f2]).length (gcells figV (F ++ [f2]))) := own_set hown6 hp6 (by decide) _
          have G7 : Hid (w.grownBy (w6.setCell ⟨(w.heap.size + 1 + 1), 2, none⟩ (.slice o6 (F ++ [f2]).length cap6)) (some g)) := gb_setCell G6 (.inr (by omega)) _ _
          have R7 : Hid (Rd W0 (w6.setCell ⟨(w.heap.size + 1 + 1), 2, none⟩ (.slice o6 (F ++ [f2]).length cap6)) g E T3) := rd_setCell R6 (by omega) (by omega) _ _
          clear hown6 hp6 r16 hgr6 own5 G6 R6 G5 R5 hg5
          go_wp2_with (first
            | (refine wl_loadE (E := ClaE) ClaOk rfl _ rfl (w.heap.size + 1 + 1) 0 rfl _ _ _ (claV ⟨t.text, (t.pos : Int), F ++ [f2], true, false⟩ (.slice o6 (F ++ [f2]).length cap6)) rfl rP7.out (own_cells _ _) ?_)
            | (refine wl_storeE (E := ClaE) ClaOk rfl _ _ rfl (w.heap.size + 1) (claV ⟨t.text, (t.pos : Int), F ++ [f2], true, false⟩ (.slice o6 (F ++ [f2]).length cap6)) (cla_fits _ _ ⟨_, _, _, rfl⟩) rfl rfl _ r17.out rfl _ rfl ?_))
          refine retE (E := ClaE) ClaOk rfl rfl (w.heap.size + 1) rfl (claV ⟨t.text, (t.pos : Int), F ++ [f2], true, false⟩ (.slice o6 (F ++ [f2]).length cap6)) rfl (setRow_heap _ _ _ _ _ _ r17.out) ?_
          rw [HA.out]
          exact ⟨gb_setRow G7.out (.inr (by omega)) _, ⟨_, rfl, _, rfl, own_setRow6 OWN7.out r17.out (by decide) _⟩, rd_setRow R7.out (by omega) (by omega) _⟩
    · obtain ⟨hO, hf4⟩ := rdO_no hk
      rw [hf4]
      rw [hO] at HA
      clear hk hO hf4 c2 f2
      rintro e w2 ⟨hg2, ⟨v, rfl, rfl⟩, R2⟩
      have z2 : w1.heap.size ≤ w2.heap.size := by have := hg2.size; rw [tc_size] at this; simpa using this
      have rP2 : w2.heap[(w.heap.size + 1 + 1)]? = some (.cells (claV ⟨t.text, (t.pos : Int), [], false, false⟩ (.slice o F.length cap)) 129 (0, 0)) := (hg2.block _ (by rw [tc_size]; omega) (by simp; omega)).trans KP.out.2.2.1
      have r12 : w2.heap[w.heap.size + 1]? = some (.cells (claV ⟨[], 0, [], false, false⟩ (.slice none 0 0)) 129 (0, 0)) := (hg2.block _ (by rw [tc_size]; omega) (by simp; omega)).trans KP.out.2.2.2
      have c3 : w2.cell? ⟨(w.heap.size + 1 + 1), 3, none⟩ = some (.bool false) := by rw [cell_of_row _ _ _ _ _ _ rP2]; rfl
      have f3 : w2.frozen? ⟨(w.heap.size + 1 + 1), 3, none⟩ = false := tc_frozen rP2 rfl
      have rP3 : (w2.setCell ⟨(w.heap.size + 1 + 1), 3, none⟩ (.bool false)).heap[(w.heap.size + 1 + 1)]? = some (.cells (claV ⟨t.text, (t.pos : Int), F, false, false⟩ (.slice o F.length cap)) 129 (0, 0)) := tc_row rP2 _
      have r13 : (w2.setCell ⟨(w.heap.size + 1 + 1), 3, none⟩ (.bool false)).heap[w.heap.size + 1]? = some (.cells (claV ⟨[], 0, [], false, false⟩ (.slice none 0 0)) 129 (0, 0)) := (tc_far (by omega) _).trans r12
      have R3 : Rd W0 (w2.setCell ⟨(w.heap.size + 1 + 1), 3, none⟩ (.bool false)) g E T1 := rd_setCell R2 (by omega) (by omega) _ _
      have G3 : w.grownBy (w2.setCell ⟨(w.heap.size + 1 + 1), 3, none⟩ (.bool false)) (some g) := gb_setCell (grown_trans KP.out.2.1 hg2) (.inr (by omega)) _ _
      have OWN3 : Hid ((w2.setCell ⟨(w.heap.size + 1 + 1), 3, none⟩ (.bool false)).ownsRow w.heap.size 89 2 (.slice o F.length cap) F.length (gcells figV F)) := own_set (own_by hg2 hgl.2 OWN2.out) rP2 (by decide) _
      have d3 : (w2.setCell ⟨(w.heap.size + 1 + 1), 3, none⟩ (.bool false)).cell? ⟨(w.heap.size + 1 + 1), 3, none⟩ = some (.bool false) := by rw [cell_of_row _ _ _ _ _ _ rP3]; rfl
      have d4 : (w2.setCell ⟨(w.heap.size + 1 + 1), 3, none⟩ (.bool false)).cell? ⟨(w.heap.size + 1 + 1), 4, none⟩ = some (.bool false) := by rw [cell_of_row _ _ _ _ _ _ rP3]; rfl
      have K3 : Hid (_ ∧ _ ∧ _ ∧ _) := ⟨R3, G3, rP3, r13⟩
      have HA3 : Hid (A = .ok ((⟨t.text, (t.pos : Int), F, false, false⟩ : Cla), T1)) := by show _ = _; rw [HA.out]; simp [Except.map]
      clear hg2 R2 rP2 r12 rP3 r13 R3 G3 OWN2 KP
      go_wp2_with (first
        | (refine wl_loadE (E := ClaE) ClaOk rfl _ rfl (w.heap.size + 1 + 1) 0 rfl _ _ _ (claV ⟨t.text, (t.pos : Int), F, false, false⟩ (.slice o F.length cap)) rfl K3.out.2.2.1 (own_cells _ _) ?_)
        | (refine wl_storeE (E := ClaE) ClaOk rfl _ _ rfl (w.heap.size + 1) (claV ⟨t.text, (t.pos : Int), F, false, false⟩ (.slice o F.length cap)) (cla_fits _ _ ⟨_, _, _, rfl⟩) rfl rfl _ K3.out.2.2.2 rfl _ rfl ?_))
      refine retE (E := ClaE) ClaOk rfl rfl (w.heap.size + 1) rfl (claV ⟨t.text, (t.pos : Int), F, false, false⟩ (.slice o F.length cap)) rfl (setRow_heap _ _ _ _ _ _ K3.out.2.2.2) ?_
      rw [HA3.out]
      exact ⟨gb_setRow K3.out.2.1 (.inr (by omega)) _, ⟨_, rfl, _, rfl, own_setRow6 OWN3.out K3.out.2.2.2 (by decide) _⟩, rd_setRow K3.out.1 (by omega) (by omega) _⟩

set_option maxHeartbeats 4000000 in
set_option maxRecDepth 10000 in
theorem clause_dst (W0 w : World) (g E : Nat) (t : Tok) (ht : t.text = wDst) (T : List Tok) (h : Rd W0 w g E T) :
    Calls Tryz.prog 115 #[.pointer (some ⟨g, 0, none⟩), .agg (encT t)] w fun e w' => Took W0 w g E (ClaR w.heap.size) (addrC E t T) e w' := by
  have CF : Hid (∀ W T, Rd W0 W g E T → Calls Tryz.prog 96 #[.pointer (some ⟨g, 0, none⟩)] W fun e w' => Took W0 W g E (fun _ f v => v = .agg (figV f)) (takeF E T) e w') := fun W T h => figure_any W0 W g E T h
  have CA : Hid (∀ W T, Rd W0 W g E T → Calls Tryz.prog 122 #[.pointer (some ⟨g, 0, none⟩)] W fun e w' => Took W0 W g E (FigsOwn W.heap.size) (addrT E T) e w') := fun W T h => address_any W0 W g E T h
  have C4 : Hid (∀ W T, Rd W0 W g E T → Calls Tryz.prog 123 #[.pointer (some ⟨g, 0, none⟩), .int .i64 4] W fun e w' => Took W0 W g E (fun _ b v => v = .bool b) (follT E 4 T) e w') := fun W T h => follows_any W0 W g E 4 (by decide) T h
  have C5 : Hid (∀ W T, Rd W0 W g E T → Calls Tryz.prog 123 #[.pointer (some ⟨g, 0, none⟩), .int .i64 5] W fun e w' => Took W0 W g E (fun _ b v => v = .bool b) (follT E 5 T) e w') := fun W T h => follows_any W0 W g E 5 (by decide) T h
  have hgl := h.size
  have e0 : (t.text == [115, 114, 99]) = false := by rw [ht]; rfl
  have e1 : (t.text == [100, 115, 116]) = true := by rw [ht]; rfl
  have H : Hid (Rd W0 w g E T) := h
  obtain ⟨A, hA⟩ : ∃ A, A = addrC E t T := ⟨_, rfl⟩
  rw [← hA]
  unfold addrC at hA
  have q1 := fun x => tok_cells (heap_past _ x _ _ (heap_new w (.cells (encT t) 117) _ rfl))
  have q2 := fun x y => tok_cells (heap_past _ y _ _ (heap_past _ x _ _ (heap_new w (.cells (encT t) 117) _ rfl)))
  have t1 := fun x => (q1 x).2.1
  have t2 := fun x => (q1 x).2.2.1
  have t5 := fun x y => (q2 x y).2.1
  have t6 := fun x y => (q2 x y).2.2.1
  clear q1 q2
  clear h ht
  go_enter Tryz.func115, Tryz.ntmps115
  go_wp2_with (first
    | (refine wl_storeE (E := ClaE) ClaOk rfl _ _ rfl (w.heap.size + 2) (claV ⟨t.text, (t.pos : Int), [], false, false⟩ (.slice none 0 0)) (cla_fits _ _ ⟨_, _, _, rfl⟩) rfl rfl _ (heap_new _ _ _ (by simp)) rfl _ (setRow_new _ _ _ _ _ (by simp)) ?_))
  refine (CA.out _ T (((H.out.alloc _).alloc _).alloc _)).mono ?_
  cases hF : addrT E T with
  | error x =>
    obtain ⟨c, q⟩ := x
    have HA2 : Hid (A = .error (c, q)) := by show _ = _; rw [hA, hF]; rfl
    clear hA hF
    rintro e w1 ⟨hg1, rfl⟩
    go_wp2_with fail
    rw [HA2.out]
    exact ⟨rfl, grown_trans (gb_alloc (gb_alloc (gb_alloc (gb_refl w g) _) _) _) hg1, rfl⟩
  | ok x =>
    obtain ⟨F, T1⟩ := x
    have HA : Hid (A = (takeO E 4 T1).map fun z => ((⟨t.text, (t.pos : Int), F ++ z.1.toList, z.1.isSome, false⟩ : Cla), z.2)) := by show _ = _; rw [hA, hF]; rfl
    have HFL : Hid (F.length = 4) := addrT_len hF
    clear hA
    rintro e w1 ⟨hg1, ⟨u, rfl, hown1⟩, R1⟩
    obtain ⟨o, cap, rfl⟩ := gown_slice hown1
    have OWN1 : Hid (w1.ownsRow w.heap.size 89 2 (.slice o F.length cap) F.length (gcells figV F)) := gown_base hown1 (by simp; omega)
    have G1 : w.grownBy w1 (some g) := grown_trans (gb_alloc (gb_alloc (gb_alloc (gb_refl w g) _) _) _) hg1
    have z1 : w.heap.size + 3 ≤ w1.heap.size := by have := hg1.size; simp at this; omega
    have r1 : w1.heap[w.heap.size + 1]? = some (.cells (claV ⟨[], 0, [], false, false⟩ (.slice none 0 0)) 129 (0, 0)) := (hg1.block _ (by simp) (by simp; omega)).trans (heap_past _ _ _ _ (heap_new _ _ _ (by simp)))
    have rP : w1.heap[(w.heap.size + 1 + 1)]? = some (.cells (claV ⟨t.text, (t.pos : Int), [], false, false⟩ (.slice none 0 0)) 129 (0, 0)) := (hg1.block _ (by simp) (by simp; omega)).trans (heap_new _ _ _ (by simp))
    have c2 : w1.cell? ⟨(w.heap.size + 1 + 1), 2, none⟩ = some (.slice none 0 0) := by rw [cell_of_row _ _ _ _ _ _ rP]; rfl
    have f2 : w1.frozen? ⟨(w.heap.size + 1 + 1), 2, none⟩ = false := tc_frozen rP rfl
    have R1' : Rd W0 (w1.setCell ⟨(w.heap.size + 1 + 1), 2, none⟩ (.slice o F.length cap)) g E T1 := rd_setCell R1 (by omega) (by omega) _ _
    have G1' : w.grownBy (w1.setCell ⟨(w.heap.size + 1 + 1), 2, none⟩ (.slice o F.length cap)) (some g) := gb_setCell G1 (.inr (by omega)) _ _
    have rP' : (w1.setCell ⟨(w.heap.size + 1 + 1), 2, none⟩ (.slice o F.length cap)).heap[(w.heap.size + 1 + 1)]? = some (.cells (claV ⟨t.text, (t.pos : Int), [], false, false⟩ (.slice o F.length cap)) 129 (0, 0)) := tc_row rP _
    have r1' : (w1.setCell ⟨(w.heap.size + 1 + 1), 2, none⟩ (.slice o F.length cap)).heap[w.heap.size + 1]? = some (.cells (claV ⟨[], 0, [], false, false⟩ (.slice none 0 0)) 129 (0, 0)) := (tc_far (by omega) _).trans r1
    have OWN2 : Hid ((w1.setCell ⟨(w.heap.size + 1 + 1), 2, none⟩ (.slice o F.length cap)).ownsRow w.heap.size 89 2 (.slice o F.length cap) F.length (gcells figV F)) := own_set OWN1.out rP (by decide) _
    have KP : Hid (_ ∧ _ ∧ _ ∧ _) := ⟨R1', G1', rP', r1'⟩
    clear R1 G1 rP r1 R1' G1' rP' r1' OWN1 hg1 hF
    go_wp2_with fail
    refine (C4.out _ T1 KP.out.1).mono ?_
    by_cases hk : (hd E T1).kind = 4
    · obtain ⟨T2, hO, hf4⟩ := rdO_yes (by decide) hk
      rw [hf4]
      rw [hO] at HA
      clear hk hO hf4 c2 f2
      rintro e w2 ⟨hg2, ⟨v, rfl, rfl⟩, R2⟩
      have z2 : w1.heap.size ≤ w2.heap.size := by have := hg2.size; rw [tc_size] at this; simpa using this
      have rP2 : w2.heap[(w.heap.size + 1 + 1)]? = some (.cells (claV ⟨t.text, (t.pos : Int), [], false, false⟩ (.slice o F.length cap)) 129 (0, 0)) := (hg2.block _ (by rw [tc_size]; omega) (by simp; omega)).trans KP.out.2.2.1
      have r12 : w2.heap[w.heap.size + 1]? = some (.cells (claV ⟨[], 0, [], false, false⟩ (.slice none 0 0)) 129 (0, 0)) := (hg2.block _ (by rw [tc_size]; omega) (by simp; omega)).trans KP.out.2.2.2
      have c3 : w2.cell? ⟨(w.heap.size + 1 + 1), 3, none⟩ = some (.bool false) := by rw [cell_of_row _ _ _ _ _ _ rP2]; rfl
      have f3 : w2.frozen? ⟨(w.heap.size + 1 + 1), 3, none⟩ = false := tc_frozen rP2 rfl
      have rP3 : (w2.setCell ⟨(w.heap.size + 1 + 1), 3, none⟩ (.bool true)).heap[(w.heap.size + 1 + 1)]? = some (.cells (claV ⟨t.text, (t.pos : Int), [], true, false⟩ (.slice o F.length cap)) 129 (0, 0)) := tc_row rP2 _
      have r13 : (w2.setCell ⟨(w.heap.size + 1 + 1), 3, none⟩ (.bool true)).heap[w.heap.size + 1]? = some (.cells (claV ⟨[], 0, [], false, false⟩ (.slice none 0 0)) 129 (0, 0)) := (tc_far (by omega) _).trans r12
      have R3 : Rd W0 (w2.setCell ⟨(w.heap.size + 1 + 1), 3, none⟩ (.bool true)) g E T2 := rd_setCell R2 (by omega) (by omega) _ _
      have G3 : w.grownBy (w2.setCell ⟨(w.heap.size + 1 + 1), 3, none⟩ (.bool true)) (some g) := gb_setCell (grown_trans KP.out.2.1 hg2) (.inr (by omega)) _ _
      have OWN3 : Hid ((w2.setCell ⟨(w.heap.size + 1 + 1), 3, none⟩ (.bool true)).ownsRow w.heap.size 89 2 (.slice o F.length cap) F.length (gcells figV F)) := own_set (own_by hg2 hgl.2 OWN2.out) rP2 (by decide) _
      have d3 : (w2.setCell ⟨(w.heap.size + 1 + 1), 3, none⟩ (.bool true)).cell? ⟨(w.heap.size + 1 + 1), 3, none⟩ = some (.bool true) := by rw [cell_of_row _ _ _ _ _ _ rP3]; rfl
      have d4 : (w2.setCell ⟨(w.heap.size + 1 + 1), 3, none⟩ (.bool true)).cell? ⟨(w.heap.size + 1 + 1), 4, none⟩ = some (.bool false) := by rw [cell_of_row _ _ _ _ _ _ rP3]; rfl
      have K3 : Hid (_ ∧ _ ∧ _ ∧ _) := ⟨R3, G3, rP3, r13⟩
      clear hg2 R2 rP2 r12 rP3 r13 R3 G3 OWN2 KP
      go_wp2_with fail
      obtain ⟨w4, hw4⟩ : ∃ w4, w4 = w2.setCell ⟨(w.heap.size + 1 + 1), 3, none⟩ (.bool true) := ⟨_, rfl⟩
      rw [← hw4] at K3 OWN3 ⊢
      have z4 : w4.heap.size = w2.heap.size := by rw [hw4, tc_size]
      clear hw4 d3 d4 c3 f3
      cases hF2 : takeF E T2 with
      | error x =>
        obtain ⟨c, q⟩ := x
        rw [hF2] at HA
        refine own15_panics (Nat.le_of_ble_eq_true rfl) g (w.heap.size + 1 + 1) rfl rfl _ K3.out.2.2.1 (.slice o F.length cap) rfl [{ v := faultV c q, recovered := false }] (fun w' => w.grownBy w' (some g)) ?_ ?_
        · refine (CF.out w4.drew T2 (K3.out.1.below ((Below.refl _ _).drew))).mono ?_
          rw [hF2]
          rintro e w' ⟨hg, rfl⟩
          exact ⟨rfl, grown_trans K3.out.2.1 (grown_trans (gb_drew w4 g) hg)⟩
        · intro a' w' hdf hg
          go_wp2_with fail
          rw [HA.out]
          exact ⟨hdf, hg, rfl⟩
      | ok x =>
        obtain ⟨f2, T3⟩ := x
        rw [hF2] at HA
        refine own15_region (Nat.le_of_ble_eq_true rfl) g (w.heap.size + 1 + 1) rfl rfl _ K3.out.2.2.1 (.slice o F.length cap) rfl (by omega) F w.heap.size OWN3.out (by have := HFL.out; omega) (by omega) hgl.2 f2 (fun w' => w.grownBy w' (some g) ∧ Rd W0 w' g E T3) ?_ ?_
        · refine (CF.out w4.drew T2 (K3.out.1.below ((Below.refl _ _).drew))).mono ?_
          rw [hF2]
          rintro e w' ⟨hg, ⟨v, rfl, rfl⟩, R⟩
          exact ⟨rfl, hg, grown_trans K3.out.2.1 (grown_trans (gb_drew w4 g) hg), R⟩
        · rintro a' w5 w6 v' ⟨y0, y1, y2, y3, y4, y5, y6, rfl⟩ ⟨G5, R5⟩ hg5 hgr6 hown6 hp6
          simp only [Act.put, List.setIfInBounds_toArray, List.set_cons_succ, List.set_cons_zero]
          obtain ⟨o6, cap6, rfl⟩ := gown_slice hown6
          have z5 := hg5.size
          have z6 := hgr6.size
          have own5 := own_by hg5 hgl.2 OWN3.out
          have hub : ∀ k, ((.slice o F.length cap) : Value).ownBlock = some k → w.heap.size ≤ k := fun k hk => (OWN3.out.lt k hk).1
          have r16 : w6.heap[w.heap.size + 1]? = some (.cells (claV ⟨[], 0, [], false, false⟩ (.slice none 0 0)) 129 (0, 0)) := by
            refine (hgr6.block _ (by simp; omega) ?_).trans (heap_past _ _ _ _ ((hg5.block _ (by omega) (by simp; omega)).trans K3.out.2.2.2))
            intro hq
            have hx := hq.symm
            obtain ⟨_, ⟨hv, _⟩ | ⟨g', cap', cur', hv, _, h2, _⟩⟩ := OWN3.out
            · rw [hv] at hx; simp [Value.ownBlock] at hx
            · rw [hv] at hx
              simp only [Value.ownBlock, Option.some.injEq] at hx
              rw [hx, K3.out.2.2.2] at h2
              simp at h2
          have G6 : w.grownBy w6 (some g) := gb_own (gb_alloc G5 _) hgr6 hub
          have R6 : Rd W0 w6 g E T3 := rd_own (R5.alloc _) hgr6 fun k hk => Nat.lt_of_lt_of_le hgl.2 (hub k hk)
          have rP7 : Hid ((w6.setCell ⟨(w.heap.size + 1 + 1), 2, none⟩ (.slice o6 (F ++ [f2]).length cap6)).heap[(w.heap.size + 1 + 1)]? = some (.cells (claV ⟨t.text, (t.pos : Int), F ++ [f2], true, false⟩ (.slice o6 (F ++ [f2]).length cap6)) 129 (0, 0))) := tc_row hp6 _
          have r17 : Hid ((w6.setCell ⟨(w.heap.size + 1 + 1), 2, none⟩ (.slice o6 (F ++ [f2]).length cap6)).heap[w.heap.size + 1]? = some (.cells (claV ⟨[], 0, [], false, false⟩ (.slice none 0 0)) 129 (0, 0))) := (tc_far (by omega) _).trans r16
          have OWN7 : Hid ((w6.setCell ⟨(w.heap.size + 1 + 1), 2, none⟩ (.slice o6 (F ++ [f2]).length cap6)).ownsRow w.heap.size 89 2 (.slice o6 (F ++ [f2]).length cap6) (F ++ [f2]).length (gcells figV (F ++ [f2]))) := own_set hown6 hp6 (by decide) _
          have G7 : Hid (w.grownBy (w6.setCell ⟨(w.heap.size + 1 + 1), 2, none⟩ (.slice o6 (F ++ [f2]).length cap6)) (some g)) := gb_setCell G6 (.inr (by omega)) _ _
          have R7 : Hid (Rd W0 (w6.setCell ⟨(w.heap.size + 1 + 1), 2, none⟩ (.slice o6 (F ++ [f2]).length cap6)) g E T3) := rd_setCell R6 (by omega) (by omega) _ _
          clear hown6 hp6 r16 hgr6 own5 G6 R6 G5 R5 hg5
          go_wp2_with (first
            | (refine wl_loadE (E := ClaE) ClaOk rfl _ rfl (w.heap.size + 1 + 1) 0 rfl _ _ _ (claV ⟨t.text, (t.pos : Int), F ++ [f2], true, false⟩ (.slice o6 (F ++ [f2]).length cap6)) rfl rP7.out (own_cells _ _) ?_)
            | (refine wl_storeE (E := ClaE) ClaOk rfl _ _ rfl (w.heap.size + 1) (claV ⟨t.text, (t.pos : Int), F ++ [f2], true, false⟩ (.slice o6 (F ++ [f2]).length cap6)) (cla_fits _ _ ⟨_, _, _, rfl⟩) rfl rfl _ r17.out rfl _ rfl ?_))
          refine retE (E := ClaE) ClaOk rfl rfl (w.heap.size + 1) rfl (claV ⟨t.text, (t.pos : Int), F ++ [f2], true, false⟩ (.slice o6 (F ++ [f2]).length cap6)) rfl (setRow_heap _ _ _ _ _ _ r17.out) ?_
          rw [HA.out]
          exact ⟨gb_setRow G7.out (.inr (by omega)) _, ⟨_, rfl, _, rfl, own_setRow6 OWN7.out r17.out (by decide) _⟩, rd_setRow R7.out (by omega) (by omega) _⟩
    · obtain ⟨hO, hf4⟩ := rdO_no hk
      rw [hf4]
      rw [hO] at HA
      clear hk hO hf4 c2 f2
      rintro e w2 ⟨hg2, ⟨v, rfl, rfl⟩, R2⟩
      have z2 : w1.heap.size ≤ w2.heap.size := by have := hg2.size; rw [tc_size] at this; simpa using this
      have rP2 : w2.heap[(w.heap.size + 1 + 1)]? = some (.cells (claV ⟨t.text, (t.pos : Int), [], false, false⟩ (.slice o F.length cap)) 129 (0, 0)) := (hg2.block _ (by rw [tc_size]; omega) (by simp; omega)).trans KP.out.2.2.1
      have r12 : w2.heap[w.heap.size + 1]? = some (.cells (claV ⟨[], 0, [], false, false⟩ (.slice none 0 0)) 129 (0, 0)) := (hg2.block _ (by rw [tc_size]; omega) (by simp; omega)).trans KP.out.2.2.2
      have c3 : w2.cell? ⟨(w.heap.size + 1 + 1), 3, none⟩ = some (.bool false) := by rw [cell_of_row _ _ _ _ _ _ rP2]; rfl
      have f3 : w2.frozen? ⟨(w.heap.size + 1 + 1), 3, none⟩ = false := tc_frozen rP2 rfl
      have rP3 : (w2.setCell ⟨(w.heap.size + 1 + 1), 3, none⟩ (.bool false)).heap[(w.heap.size + 1 + 1)]? = some (.cells (claV ⟨t.text, (t.pos : Int), F, false, false⟩ (.slice o F.length cap)) 129 (0, 0)) := tc_row rP2 _
      have r13 : (w2.setCell ⟨(w.heap.size + 1 + 1), 3, none⟩ (.bool false)).heap[w.heap.size + 1]? = some (.cells (claV ⟨[], 0, [], false, false⟩ (.slice none 0 0)) 129 (0, 0)) := (tc_far (by omega) _).trans r12
      have R3 : Rd W0 (w2.setCell ⟨(w.heap.size + 1 + 1), 3, none⟩ (.bool false)) g E T1 := rd_setCell R2 (by omega) (by omega) _ _
      have G3 : w.grownBy (w2.setCell ⟨(w.heap.size + 1 + 1), 3, none⟩ (.bool false)) (some g) := gb_setCell (grown_trans KP.out.2.1 hg2) (.inr (by omega)) _ _
      have OWN3 : Hid ((w2.setCell ⟨(w.heap.size + 1 + 1), 3, none⟩ (.bool false)).ownsRow w.heap.size 89 2 (.slice o F.length cap) F.length (gcells figV F)) := own_set (own_by hg2 hgl.2 OWN2.out) rP2 (by decide) _
      have d3 : (w2.setCell ⟨(w.heap.size + 1 + 1), 3, none⟩ (.bool false)).cell? ⟨(w.heap.size + 1 + 1), 3, none⟩ = some (.bool false) := by rw [cell_of_row _ _ _ _ _ _ rP3]; rfl
      have d4 : (w2.setCell ⟨(w.heap.size + 1 + 1), 3, none⟩ (.bool false)).cell? ⟨(w.heap.size + 1 + 1), 4, none⟩ = some (.bool false) := by rw [cell_of_row _ _ _ _ _ _ rP3]; rfl
      have K3 : Hid (_ ∧ _ ∧ _ ∧ _) := ⟨R3, G3, rP3, r13⟩
      have HA3 : Hid (A = .ok ((⟨t.text, (t.pos : Int), F, false, false⟩ : Cla), T1)) := by show _ = _; rw [HA.out]; simp [Except.map]
      clear hg2 R2 rP2 r12 rP3 r13 R3 G3 OWN2 KP
      go_wp2_with (first
        | (refine wl_loadE (E := ClaE) ClaOk rfl _ rfl (w.heap.size + 1 + 1) 0 rfl _ _ _ (claV ⟨t.text, (t.pos : Int), F, false, false⟩ (.slice o F.length cap)) rfl K3.out.2.2.1 (own_cells _ _) ?_)
        | (refine wl_storeE (E := ClaE) ClaOk rfl _ _ rfl (w.heap.size + 1) (claV ⟨t.text, (t.pos : Int), F, false, false⟩ (.slice o F.length cap)) (cla_fits _ _ ⟨_, _, _, rfl⟩) rfl rfl _ K3.out.2.2.2 rfl _ rfl ?_))
      refine retE (E := ClaE) ClaOk rfl rfl (w.heap.size + 1) rfl (claV ⟨t.text, (t.pos : Int), F, false, false⟩ (.slice o F.length cap)) rfl (setRow_heap _ _ _ _ _ _ K3.out.2.2.2) ?_
      rw [HA3.out]
      exact ⟨gb_setRow K3.out.2.1 (.inr (by omega)) _, ⟨_, rfl, _, rfl, own_setRow6 OWN3.out K3.out.2.2.2 (by decide) _⟩, rd_setRow K3.out.1 (by omega) (by omega) _⟩

set_option maxHeartbeats 4000000 in
set_option maxRecDepth 10000 in
theorem clause_sport (W0 w : World) (g E : Nat) (t : Tok) (ht : t.text = wSport) (T : List Tok) (h : Rd W0 w g E T) :
    Calls Tryz.prog 115 #[.pointer (some ⟨g, 0, none⟩), .agg (encT t)] w fun e w' => Took W0 w g E (ClaR w.heap.size) (portC6 E t T) e w' := by
  have CF : Hid (∀ W T, Rd W0 W g E T → Calls Tryz.prog 96 #[.pointer (some ⟨g, 0, none⟩)] W fun e w' => Took W0 W g E (fun _ f v => v = .agg (figV f)) (takeF E T) e w') := fun W T h => figure_any W0 W g E T h
  have CA : Hid (∀ W T, Rd W0 W g E T → Calls Tryz.prog 122 #[.pointer (some ⟨g, 0, none⟩)] W fun e w' => Took W0 W g E (FigsOwn W.heap.size) (addrT E T) e w') := fun W T h => address_any W0 W g E T h
  have C4 : Hid (∀ W T, Rd W0 W g E T → Calls Tryz.prog 123 #[.pointer (some ⟨g, 0, none⟩), .int .i64 4] W fun e w' => Took W0 W g E (fun _ b v => v = .bool b) (follT E 4 T) e w') := fun W T h => follows_any W0 W g E 4 (by decide) T h
  have C5 : Hid (∀ W T, Rd W0 W g E T → Calls Tryz.prog 123 #[.pointer (some ⟨g, 0, none⟩), .int .i64 5] W fun e w' => Took W0 W g E (fun _ b v => v = .bool b) (follT E 5 T) e w') := fun W T h => follows_any W0 W g E 5 (by decide) T h
  have hgl := h.size
  have e0 : (t.text == [115, 114, 99]) = false := by rw [ht]; rfl
  have e1 : (t.text == [100, 115, 116]) = false := by rw [ht]; rfl
  have e2 : (t.text == [115, 112, 111, 114, 116]) = true := by rw [ht]; rfl
  have H : Hid (Rd W0 w g E T) := h
  obtain ⟨A, hA⟩ : ∃ A, A = portC6 E t T := ⟨_, rfl⟩
  rw [← hA]
  unfold portC6 at hA
  have q1 := fun x => tok_cells (heap_past _ x _ _ (heap_new w (.cells (encT t) 117) _ rfl))
  have q2 := fun x y => tok_cells (heap_past _ y _ _ (heap_past _ x _ _ (heap_new w (.cells (encT t) 117) _ rfl)))
  have t1 := fun x => (q1 x).2.1
  have t2 := fun x => (q1 x).2.2.1
  have t5 := fun x y => (q2 x y).2.1
  have t6 := fun x y => (q2 x y).2.2.1
  clear q1 q2
  clear h ht
  go_enter Tryz.func115, Tryz.ntmps115
  go_wp2_with (first
    | (refine wl_storeE (E := ClaE) ClaOk rfl _ _ rfl (w.heap.size + 2) (claV ⟨t.text, (t.pos : Int), [], false, false⟩ (.slice none 0 0)) (cla_fits _ _ ⟨_, _, _, rfl⟩) rfl rfl _ (heap_new _ _ _ (by simp)) rfl _ (setRow_new _ _ _ _ _ (by simp)) ?_))
  refine (CF.out _ T (((H.out.alloc _).alloc _).alloc _)).mono ?_
  cases hF : takeF E T with
  | error x =>
    obtain ⟨c, q⟩ := x
    have HA2 : Hid (A = .error (c, q)) := by show _ = _; rw [hA, hF]; rfl
    clear hA hF
    rintro e w1 ⟨hg1, rfl⟩
    go_wp2_with fail
    rw [HA2.out]
    exact ⟨rfl, grown_trans (gb_alloc (gb_alloc (gb_alloc (gb_refl w g) _) _) _) hg1, rfl⟩
  | ok x =>
    obtain ⟨f, T1⟩ := x
    have HA : Hid (A = (takeO E 5 T1).map fun z => ((⟨t.text, (t.pos : Int), f :: z.1.toList, false, z.1.isSome⟩ : Cla), z.2)) := by show _ = _; rw [hA, hF]; rfl
    clear hA
    rintro e w1 ⟨hg1, ⟨v, rfl, rfl⟩, R1⟩
    have G1 : w.grownBy w1 (some g) := grown_trans (gb_alloc (gb_alloc (gb_alloc (gb_refl w g) _) _) _) hg1
    have z1 : w.heap.size + 3 ≤ w1.heap.size := by have := hg1.size; simp at this; omega
    have r1 : w1.heap[w.heap.size + 1]? = some (.cells (claV ⟨[], 0, [], false, false⟩ (.slice none 0 0)) 129 (0, 0)) := (hg1.block _ (by simp) (by simp; omega)).trans (heap_past _ _ _ _ (heap_new _ _ _ (by simp)))
    have rP : w1.heap[(w.heap.size + 1 + 1)]? = some (.cells (claV ⟨t.text, (t.pos : Int), [], false, false⟩ (.slice none 0 0)) 129 (0, 0)) := (hg1.block _ (by simp) (by simp; omega)).trans (heap_new _ _ _ (by simp))
    have OWN1 : Hid ((w1.alloc (.cells (figV f) 89)).ownsRow w.heap.size 89 2 (.slice (some ⟨w1.heap.size, 0, none⟩) 1 1) [f].length (gcells figV [f])) := ⟨rfl, Or.inr ⟨w1.heap.size, 1, figV f, rfl, by omega, heap_new _ _ _ rfl, Nat.le_refl 1, by decide, rfl, rfl⟩⟩
    replace r1 := heap_past _ (.cells (figV f) 89) _ _ r1
    have rP0 := rP
    replace rP := heap_past _ (.cells (figV f) 89) _ _ rP
    replace R1 := R1.alloc (.cells (figV f) 89)
    replace G1 := gb_alloc G1 (.cells (figV f) 89)
    have z1' : (w1.alloc (.cells (figV f) 89)).heap.size = w1.heap.size + 1 := by simp
    have c2 : ∀ x, (w1.alloc x).cell? ⟨(w.heap.size + 1 + 1), 2, none⟩ = some (.slice none 0 0) := fun x => by rw [cell_of_row _ _ _ _ _ _ (heap_past _ x _ _ rP0)]; rfl
    have f2 : ∀ x, (w1.alloc x).frozen? ⟨(w.heap.size + 1 + 1), 2, none⟩ = false := fun x => tc_frozen (heap_past _ x _ _ rP0) rfl
    have R1' : Rd W0 ((w1.alloc (.cells (figV f) 89)).setCell ⟨(w.heap.size + 1 + 1), 2, none⟩ (.slice (some ⟨w1.heap.size, 0, none⟩) 1 1)) g E T1 := rd_setCell R1 (by omega) (by omega) _ _
    have G1' : w.grownBy ((w1.alloc (.cells (figV f) 89)).setCell ⟨(w.heap.size + 1 + 1), 2, none⟩ (.slice (some ⟨w1.heap.size, 0, none⟩) 1 1)) (some g) := gb_setCell G1 (.inr (by omega)) _ _
    have rP' : ((w1.alloc (.cells (figV f) 89)).setCell ⟨(w.heap.size + 1 + 1), 2, none⟩ (.slice (some ⟨w1.heap.size, 0, none⟩) 1 1)).heap[(w.heap.size + 1 + 1)]? = some (.cells (claV ⟨t.text, (t.pos : Int), [], false, false⟩ (.slice (some ⟨w1.heap.size, 0, none⟩) 1 1)) 129 (0, 0)) := tc_row rP _
    have r1' : ((w1.alloc (.cells (figV f) 89)).setCell ⟨(w.heap.size + 1 + 1), 2, none⟩ (.slice (some ⟨w1.heap.size, 0, none⟩) 1 1)).heap[w.heap.size + 1]? = some (.cells (claV ⟨[], 0, [], false, false⟩ (.slice none 0 0)) 129 (0, 0)) := (tc_far (by omega) _).trans r1
    have OWN2 : Hid (((w1.alloc (.cells (figV f) 89)).setCell ⟨(w.heap.size + 1 + 1), 2, none⟩ (.slice (some ⟨w1.heap.size, 0, none⟩) 1 1)).ownsRow w.heap.size 89 2 (.slice (some ⟨w1.heap.size, 0, none⟩) 1 1) [f].length (gcells figV [f])) := own_set OWN1.out rP (by decide) _
    have KP : Hid (_ ∧ _ ∧ _ ∧ _) := ⟨R1', G1', rP', r1'⟩
    clear R1 G1 rP r1 R1' G1' rP' r1' OWN1 hg1 hF z1'
    clear rP0
    go_wp2_with (first
      | (refine wl_buildE (E := FigE) FigOk rfl _ rfl (figV f) rfl rfl ?_))
    refine (C5.out _ T1 KP.out.1).mono ?_
    by_cases hk : (hd E T1).kind = 5
    · obtain ⟨T2, hO, hf4⟩ := rdO_yes (by decide) hk
      rw [hf4]
      rw [hO] at HA
      clear hk hO hf4 c2 f2
      rintro e w2 ⟨hg2, ⟨v, rfl, rfl⟩, R2⟩
      have z2 : w1.heap.size + 1 ≤ w2.heap.size := by have := hg2.size; rw [tc_size] at this; simpa using this
      have rP2 : w2.heap[(w.heap.size + 1 + 1)]? = some (.cells (claV ⟨t.text, (t.pos : Int), [], false, false⟩ (.slice (some ⟨w1.heap.size, 0, none⟩) 1 1)) 129 (0, 0)) := (hg2.block _ (by rw [tc_size]; simp; omega) (by simp; omega)).trans KP.out.2.2.1
      have r12 : w2.heap[w.heap.size + 1]? = some (.cells (claV ⟨[], 0, [], false, false⟩ (.slice none 0 0)) 129 (0, 0)) := (hg2.block _ (by rw [tc_size]; simp; omega) (by simp; omega)).trans KP.out.2.2.2
      have c3 : w2.cell? ⟨(w.heap.size + 1 + 1), 4, none⟩ = some (.bool false) := by rw [cell_of_row _ _ _ _ _ _ rP2]; rfl
      have f3 : w2.frozen? ⟨(w.heap.size + 1 + 1), 4, none⟩ = false := tc_frozen rP2 rfl
      have rP3 : (w2.setCell ⟨(w.heap.size + 1 + 1), 4, none⟩ (.bool true)).heap[(w.heap.size + 1 + 1)]? = some (.cells (claV ⟨t.text, (t.pos : Int), [], false, true⟩ (.slice (some ⟨w1.heap.size, 0, none⟩) 1 1)) 129 (0, 0)) := tc_row rP2 _
      have r13 : (w2.setCell ⟨(w.heap.size + 1 + 1), 4, none⟩ (.bool true)).heap[w.heap.size + 1]? = some (.cells (claV ⟨[], 0, [], false, false⟩ (.slice none 0 0)) 129 (0, 0)) := (tc_far (by omega) _).trans r12
      have R3 : Rd W0 (w2.setCell ⟨(w.heap.size + 1 + 1), 4, none⟩ (.bool true)) g E T2 := rd_setCell R2 (by omega) (by omega) _ _
      have G3 : w.grownBy (w2.setCell ⟨(w.heap.size + 1 + 1), 4, none⟩ (.bool true)) (some g) := gb_setCell (grown_trans KP.out.2.1 hg2) (.inr (by omega)) _ _
      have OWN3 : Hid ((w2.setCell ⟨(w.heap.size + 1 + 1), 4, none⟩ (.bool true)).ownsRow w.heap.size 89 2 (.slice (some ⟨w1.heap.size, 0, none⟩) 1 1) [f].length (gcells figV [f])) := own_set (own_by hg2 hgl.2 OWN2.out) rP2 (by decide) _
      have d3 : (w2.setCell ⟨(w.heap.size + 1 + 1), 4, none⟩ (.bool true)).cell? ⟨(w.heap.size + 1 + 1), 3, none⟩ = some (.bool false) := by rw [cell_of_row _ _ _ _ _ _ rP3]; rfl
      have d4 : (w2.setCell ⟨(w.heap.size + 1 + 1), 4, none⟩ (.bool true)).cell? ⟨(w.heap.size + 1 + 1), 4, none⟩ = some (.bool true) := by rw [cell_of_row _ _ _ _ _ _ rP3]; rfl
      have K3 : Hid (_ ∧ _ ∧ _ ∧ _) := ⟨R3, G3, rP3, r13⟩
      clear hg2 R2 rP2 r12 rP3 r13 R3 G3 OWN2 KP
      go_wp2_with fail
      obtain ⟨w4, hw4⟩ : ∃ w4, w4 = w2.setCell ⟨(w.heap.size + 1 + 1), 4, none⟩ (.bool true) := ⟨_, rfl⟩
      rw [← hw4] at K3 OWN3 ⊢
      have z4 : w4.heap.size = w2.heap.size := by rw [hw4, tc_size]
      clear hw4 d3 d4 c3 f3
      cases hF2 : takeF E T2 with
      | error x =>
        obtain ⟨c, q⟩ := x
        rw [hF2] at HA
        refine own15_panics (Nat.le_of_ble_eq_true rfl) g (w.heap.size + 1 + 1) rfl rfl _ K3.out.2.2.1 (.slice (some ⟨w1.heap.size, 0, none⟩) 1 1) rfl [{ v := faultV c q, recovered := false }] (fun w' => w.grownBy w' (some g)) ?_ ?_
        · refine (CF.out w4.drew T2 (K3.out.1.below ((Below.refl _ _).drew))).mono ?_
          rw [hF2]
          rintro e w' ⟨hg, rfl⟩
          exact ⟨rfl, grown_trans K3.out.2.1 (grown_trans (gb_drew w4 g) hg)⟩
        · intro a' w' hdf hg
          go_wp2_with fail
          rw [HA.out]
          exact ⟨hdf, hg, rfl⟩
      | ok x =>
        obtain ⟨f2, T3⟩ := x
        rw [hF2] at HA
        refine own15_region (Nat.le_of_ble_eq_true rfl) g (w.heap.size + 1 + 1) rfl rfl _ K3.out.2.2.1 (.slice (some ⟨w1.heap.size, 0, none⟩) 1 1) rfl (by omega) [f] w.heap.size OWN3.out (by simp) (by omega) hgl.2 f2 (fun w' => w.grownBy w' (some g) ∧ Rd W0 w' g E T3) ?_ ?_
        · refine (CF.out w4.drew T2 (K3.out.1.below ((Below.refl _ _).drew))).mono ?_
          rw [hF2]
          rintro e w' ⟨hg, ⟨v, rfl, rfl⟩, R⟩
          exact ⟨rfl, hg, grown_trans K3.out.2.1 (grown_trans (gb_drew w4 g) hg), R⟩
        · rintro a' w5 w6 v' ⟨y0, y1, y2, y3, y4, y5, y6, rfl⟩ ⟨G5, R5⟩ hg5 hgr6 hown6 hp6
          simp only [Act.put, List.setIfInBounds_toArray, List.set_cons_succ, List.set_cons_zero]
          obtain ⟨o6, cap6, rfl⟩ := gown_slice hown6
          have z5 := hg5.size
          have z6 := hgr6.size
          have own5 := own_by hg5 hgl.2 OWN3.out
          have hub : ∀ k, ((.slice (some ⟨w1.heap.size, 0, none⟩) 1 1) : Value).ownBlock = some k → w.heap.size ≤ k := fun k hk => (OWN3.out.lt k hk).1
          have r16 : w6.heap[w.heap.size + 1]? = some (.cells (claV ⟨[], 0, [], false, false⟩ (.slice none 0 0)) 129 (0, 0)) := by
            refine (hgr6.block _ (by simp; omega) ?_).trans (heap_past _ _ _ _ ((hg5.block _ (by omega) (by simp; omega)).trans K3.out.2.2.2))
            intro hq
            have hx := hq.symm
            obtain ⟨_, ⟨hv, _⟩ | ⟨g', cap', cur', hv, _, h2, _⟩⟩ := OWN3.out
            · rw [hv] at hx; simp [Value.ownBlock] at hx
            · rw [hv] at hx
              simp only [Value.ownBlock, Option.some.injEq] at hx
              rw [hx, K3.out.2.2.2] at h2
              simp at h2
          have G6 : w.grownBy w6 (some g) := gb_own (gb_alloc G5 _) hgr6 hub
          have R6 : Rd W0 w6 g E T3 := rd_own (R5.alloc _) hgr6 fun k hk => Nat.lt_of_lt_of_le hgl.2 (hub k hk)
          have rP7 : Hid ((w6.setCell ⟨(w.heap.size + 1 + 1), 2, none⟩ (.slice o6 ([f] ++ [f2]).length cap6)).heap[(w.heap.size + 1 + 1)]? = some (.cells (claV ⟨t.text, (t.pos : Int), [f] ++ [f2], false, true⟩ (.slice o6 ([f] ++ [f2]).length cap6)) 129 (0, 0))) := tc_row hp6 _
          have r17 : Hid ((w6.setCell ⟨(w.heap.size + 1 + 1), 2, none⟩ (.slice o6 ([f] ++ [f2]).length cap6)).heap[w.heap.size + 1]? = some (.cells (claV ⟨[], 0, [], false, false⟩ (.slice none 0 0)) 129 (0, 0))) := (tc_far (by omega) _).trans r16
          have OWN7 : Hid ((w6.setCell ⟨(w.heap.size + 1 + 1), 2, none⟩ (.slice o6 ([f] ++ [f2]).length cap6)).ownsRow w.heap.size 89 2 (.slice o6 ([f] ++ [f2]).length cap6) ([f] ++ [f2]).length (gcells figV ([f] ++ [f2]))) := own_set hown6 hp6 (by decide) _
          have G7 : Hid (w.grownBy (w6.setCell ⟨(w.heap.size + 1 + 1), 2, none⟩ (.slice o6 ([f] ++ [f2]).length cap6)) (some g)) := gb_setCell G6 (.inr (by omega)) _ _
          have R7 : Hid (Rd W0 (w6.setCell ⟨(w.heap.size + 1 + 1), 2, none⟩ (.slice o6 ([f] ++ [f2]).length cap6)) g E T3) := rd_setCell R6 (by omega) (by omega) _ _
          clear hown6 hp6 r16 hgr6 own5 G6 R6 G5 R5 hg5
          go_wp2_with (first
            | (refine wl_loadE (E := ClaE) ClaOk rfl _ rfl (w.heap.size + 1 + 1) 0 rfl _ _ _ (claV ⟨t.text, (t.pos : Int), [f] ++ [f2], false, true⟩ (.slice o6 ([f] ++ [f2]).length cap6)) rfl rP7.out (own_cells _ _) ?_)
            | (refine wl_storeE (E := ClaE) ClaOk rfl _ _ rfl (w.heap.size + 1) (claV ⟨t.text, (t.pos : Int), [f] ++ [f2], false, true⟩ (.slice o6 ([f] ++ [f2]).length cap6)) (cla_fits _ _ ⟨_, _, _, rfl⟩) rfl rfl _ r17.out rfl _ rfl ?_))
          refine retE (E := ClaE) ClaOk rfl rfl (w.heap.size + 1) rfl (claV ⟨t.text, (t.pos : Int), [f] ++ [f2], false, true⟩ (.slice o6 ([f] ++ [f2]).length cap6)) rfl (setRow_heap _ _ _ _ _ _ r17.out) ?_
          rw [HA.out]
          exact ⟨gb_setRow G7.out (.inr (by omega)) _, ⟨_, rfl, _, rfl, own_setRow6 OWN7.out r17.out (by decide) _⟩, rd_setRow R7.out (by omega) (by omega) _⟩
    · obtain ⟨hO, hf4⟩ := rdO_no hk
      rw [hf4]
      rw [hO] at HA
      clear hk hO hf4 c2 f2
      rintro e w2 ⟨hg2, ⟨v, rfl, rfl⟩, R2⟩
      have z2 : w1.heap.size + 1 ≤ w2.heap.size := by have := hg2.size; rw [tc_size] at this; simpa using this
      have rP2 : w2.heap[(w.heap.size + 1 + 1)]? = some (.cells (claV ⟨t.text, (t.pos : Int), [], false, false⟩ (.slice (some ⟨w1.heap.size, 0, none⟩) 1 1)) 129 (0, 0)) := (hg2.block _ (by rw [tc_size]; simp; omega) (by simp; omega)).trans KP.out.2.2.1
      have r12 : w2.heap[w.heap.size + 1]? = some (.cells (claV ⟨[], 0, [], false, false⟩ (.slice none 0 0)) 129 (0, 0)) := (hg2.block _ (by rw [tc_size]; simp; omega) (by simp; omega)).trans KP.out.2.2.2
      have c3 : w2.cell? ⟨(w.heap.size + 1 + 1), 4, none⟩ = some (.bool false) := by rw [cell_of_row _ _ _ _ _ _ rP2]; rfl
      have f3 : w2.frozen? ⟨(w.heap.size + 1 + 1), 4, none⟩ = false := tc_frozen rP2 rfl
      have rP3 : (w2.setCell ⟨(w.heap.size + 1 + 1), 4, none⟩ (.bool false)).heap[(w.heap.size + 1 + 1)]? = some (.cells (claV ⟨t.text, (t.pos : Int), [f], false, false⟩ (.slice (some ⟨w1.heap.size, 0, none⟩) 1 1)) 129 (0, 0)) := tc_row rP2 _
      have r13 : (w2.setCell ⟨(w.heap.size + 1 + 1), 4, none⟩ (.bool false)).heap[w.heap.size + 1]? = some (.cells (claV ⟨[], 0, [], false, false⟩ (.slice none 0 0)) 129 (0, 0)) := (tc_far (by omega) _).trans r12
      have R3 : Rd W0 (w2.setCell ⟨(w.heap.size + 1 + 1), 4, none⟩ (.bool false)) g E T1 := rd_setCell R2 (by omega) (by omega) _ _
      have G3 : w.grownBy (w2.setCell ⟨(w.heap.size + 1 + 1), 4, none⟩ (.bool false)) (some g) := gb_setCell (grown_trans KP.out.2.1 hg2) (.inr (by omega)) _ _
      have OWN3 : Hid ((w2.setCell ⟨(w.heap.size + 1 + 1), 4, none⟩ (.bool false)).ownsRow w.heap.size 89 2 (.slice (some ⟨w1.heap.size, 0, none⟩) 1 1) [f].length (gcells figV [f])) := own_set (own_by hg2 hgl.2 OWN2.out) rP2 (by decide) _
      have d3 : (w2.setCell ⟨(w.heap.size + 1 + 1), 4, none⟩ (.bool false)).cell? ⟨(w.heap.size + 1 + 1), 3, none⟩ = some (.bool false) := by rw [cell_of_row _ _ _ _ _ _ rP3]; rfl
      have d4 : (w2.setCell ⟨(w.heap.size + 1 + 1), 4, none⟩ (.bool false)).cell? ⟨(w.heap.size + 1 + 1), 4, none⟩ = some (.bool false) := by rw [cell_of_row _ _ _ _ _ _ rP3]; rfl
      have K3 : Hid (_ ∧ _ ∧ _ ∧ _) := ⟨R3, G3, rP3, r13⟩
      have HA3 : Hid (A = .ok ((⟨t.text, (t.pos : Int), [f], false, false⟩ : Cla), T1)) := by show _ = _; rw [HA.out]; simp [Except.map]
      clear hg2 R2 rP2 r12 rP3 r13 R3 G3 OWN2 KP
      go_wp2_with (first
        | (refine wl_loadE (E := ClaE) ClaOk rfl _ rfl (w.heap.size + 1 + 1) 0 rfl _ _ _ (claV ⟨t.text, (t.pos : Int), [f], false, false⟩ (.slice (some ⟨w1.heap.size, 0, none⟩) 1 1)) rfl K3.out.2.2.1 (own_cells _ _) ?_)
        | (refine wl_storeE (E := ClaE) ClaOk rfl _ _ rfl (w.heap.size + 1) (claV ⟨t.text, (t.pos : Int), [f], false, false⟩ (.slice (some ⟨w1.heap.size, 0, none⟩) 1 1)) (cla_fits _ _ ⟨_, _, _, rfl⟩) rfl rfl _ K3.out.2.2.2 rfl _ rfl ?_))
      refine retE (E := ClaE) ClaOk rfl rfl (w.heap.size + 1) rfl (claV ⟨t.text, (t.pos : Int), [f], false, false⟩ (.slice (some ⟨w1.heap.size, 0, none⟩) 1 1)) rfl (setRow_heap _ _ _ _ _ _ K3.out.2.2.2) ?_
      rw [HA3.out]
      exact ⟨gb_setRow K3.out.2.1 (.inr (by omega)) _, ⟨_, rfl, _, rfl, own_setRow6 OWN3.out K3.out.2.2.2 (by decide) _⟩, rd_setRow K3.out.1 (by omega) (by omega) _⟩

set_option maxHeartbeats 4000000 in
set_option maxRecDepth 10000 in
theorem clause_dport (W0 w : World) (g E : Nat) (t : Tok) (ht : t.text = wDport) (T : List Tok) (h : Rd W0 w g E T) :
    Calls Tryz.prog 115 #[.pointer (some ⟨g, 0, none⟩), .agg (encT t)] w fun e w' => Took W0 w g E (ClaR w.heap.size) (portC6 E t T) e w' := by
  have CF : Hid (∀ W T, Rd W0 W g E T → Calls Tryz.prog 96 #[.pointer (some ⟨g, 0, none⟩)] W fun e w' => Took W0 W g E (fun _ f v => v = .agg (figV f)) (takeF E T) e w') := fun W T h => figure_any W0 W g E T h
  have CA : Hid (∀ W T, Rd W0 W g E T → Calls Tryz.prog 122 #[.pointer (some ⟨g, 0, none⟩)] W fun e w' => Took W0 W g E (FigsOwn W.heap.size) (addrT E T) e w') := fun W T h => address_any W0 W g E T h
  have C4 : Hid (∀ W T, Rd W0 W g E T → Calls Tryz.prog 123 #[.pointer (some ⟨g, 0, none⟩), .int .i64 4] W fun e w' => Took W0 W g E (fun _ b v => v = .bool b) (follT E 4 T) e w') := fun W T h => follows_any W0 W g E 4 (by decide) T h
  have C5 : Hid (∀ W T, Rd W0 W g E T → Calls Tryz.prog 123 #[.pointer (some ⟨g, 0, none⟩), .int .i64 5] W fun e w' => Took W0 W g E (fun _ b v => v = .bool b) (follT E 5 T) e w') := fun W T h => follows_any W0 W g E 5 (by decide) T h
  have hgl := h.size
  have e0 : (t.text == [115, 114, 99]) = false := by rw [ht]; rfl
  have e1 : (t.text == [100, 115, 116]) = false := by rw [ht]; rfl
  have e2 : (t.text == [115, 112, 111, 114, 116]) = false := by rw [ht]; rfl
  have e3 : (t.text == [100, 112, 111, 114, 116]) = true := by rw [ht]; rfl
  have H : Hid (Rd W0 w g E T) := h
  obtain ⟨A, hA⟩ : ∃ A, A = portC6 E t T := ⟨_, rfl⟩
  rw [← hA]
  unfold portC6 at hA
  have q1 := fun x => tok_cells (heap_past _ x _ _ (heap_new w (.cells (encT t) 117) _ rfl))
  have q2 := fun x y => tok_cells (heap_past _ y _ _ (heap_past _ x _ _ (heap_new w (.cells (encT t) 117) _ rfl)))
  have t1 := fun x => (q1 x).2.1
  have t2 := fun x => (q1 x).2.2.1
  have t5 := fun x y => (q2 x y).2.1
  have t6 := fun x y => (q2 x y).2.2.1
  clear q1 q2
  clear h ht
  go_enter Tryz.func115, Tryz.ntmps115
  go_wp2_with (first
    | (refine wl_storeE (E := ClaE) ClaOk rfl _ _ rfl (w.heap.size + 2) (claV ⟨t.text, (t.pos : Int), [], false, false⟩ (.slice none 0 0)) (cla_fits _ _ ⟨_, _, _, rfl⟩) rfl rfl _ (heap_new _ _ _ (by simp)) rfl _ (setRow_new _ _ _ _ _ (by simp)) ?_))
  refine (CF.out _ T (((H.out.alloc _).alloc _).alloc _)).mono ?_
  cases hF : takeF E T with
  | error x =>
    obtain ⟨c, q⟩ := x
    have HA2 : Hid (A = .error (c, q)) := by show _ = _; rw [hA, hF]; rfl
    clear hA hF
    rintro e w1 ⟨hg1, rfl⟩
    go_wp2_with fail
    rw [HA2.out]
    exact ⟨rfl, grown_trans (gb_alloc (gb_alloc (gb_alloc (gb_refl w g) _) _) _) hg1, rfl⟩
  | ok x =>
    obtain ⟨f, T1⟩ := x
    have HA : Hid (A = (takeO E 5 T1).map fun z => ((⟨t.text, (t.pos : Int), f :: z.1.toList, false, z.1.isSome⟩ : Cla), z.2)) := by show _ = _; rw [hA, hF]; rfl
    clear hA
    rintro e w1 ⟨hg1, ⟨v, rfl, rfl⟩, R1⟩
    have G1 : w.grownBy w1 (some g) := grown_trans (gb_alloc (gb_alloc (gb_alloc (gb_refl w g) _) _) _) hg1
    have z1 : w.heap.size + 3 ≤ w1.heap.size := by have := hg1.size; simp at this; omega
    have r1 : w1.heap[w.heap.size + 1]? = some (.cells (claV ⟨[], 0, [], false, false⟩ (.slice none 0 0)) 129 (0, 0)) := (hg1.block _ (by simp) (by simp; omega)).trans (heap_past _ _ _ _ (heap_new _ _ _ (by simp)))
    have rP : w1.heap[(w.heap.size + 1 + 1)]? = some (.cells (claV ⟨t.text, (t.pos : Int), [], false, false⟩ (.slice none 0 0)) 129 (0, 0)) := (hg1.block _ (by simp) (by simp; omega)).trans (heap_new _ _ _ (by simp))
    have OWN1 : Hid ((w1.alloc (.cells (figV f) 89)).ownsRow w.heap.size 89 2 (.slice (some ⟨w1.heap.size, 0, none⟩) 1 1) [f].length (gcells figV [f])) := ⟨rfl, Or.inr ⟨w1.heap.size, 1, figV f, rfl, by omega, heap_new _ _ _ rfl, Nat.le_refl 1, by decide, rfl, rfl⟩⟩
    replace r1 := heap_past _ (.cells (figV f) 89) _ _ r1
    have rP0 := rP
    replace rP := heap_past _ (.cells (figV f) 89) _ _ rP
    replace R1 := R1.alloc (.cells (figV f) 89)
    replace G1 := gb_alloc G1 (.cells (figV f) 89)
    have z1' : (w1.alloc (.cells (figV f) 89)).heap.size = w1.heap.size + 1 := by simp
    have c2 : ∀ x, (w1.alloc x).cell? ⟨(w.heap.size + 1 + 1), 2, none⟩ = some (.slice none 0 0) := fun x => by rw [cell_of_row _ _ _ _ _ _ (heap_past _ x _ _ rP0)]; rfl
    have f2 : ∀ x, (w1.alloc x).frozen? ⟨(w.heap.size + 1 + 1), 2, none⟩ = false := fun x => tc_frozen (heap_past _ x _ _ rP0) rfl
    have R1' : Rd W0 ((w1.alloc (.cells (figV f) 89)).setCell ⟨(w.heap.size + 1 + 1), 2, none⟩ (.slice (some ⟨w1.heap.size, 0, none⟩) 1 1)) g E T1 := rd_setCell R1 (by omega) (by omega) _ _
    have G1' : w.grownBy ((w1.alloc (.cells (figV f) 89)).setCell ⟨(w.heap.size + 1 + 1), 2, none⟩ (.slice (some ⟨w1.heap.size, 0, none⟩) 1 1)) (some g) := gb_setCell G1 (.inr (by omega)) _ _
    have rP' : ((w1.alloc (.cells (figV f) 89)).setCell ⟨(w.heap.size + 1 + 1), 2, none⟩ (.slice (some ⟨w1.heap.size, 0, none⟩) 1 1)).heap[(w.heap.size + 1 + 1)]? = some (.cells (claV ⟨t.text, (t.pos : Int), [], false, false⟩ (.slice (some ⟨w1.heap.size, 0, none⟩) 1 1)) 129 (0, 0)) := tc_row rP _
    have r1' : ((w1.alloc (.cells (figV f) 89)).setCell ⟨(w.heap.size + 1 + 1), 2, none⟩ (.slice (some ⟨w1.heap.size, 0, none⟩) 1 1)).heap[w.heap.size + 1]? = some (.cells (claV ⟨[], 0, [], false, false⟩ (.slice none 0 0)) 129 (0, 0)) := (tc_far (by omega) _).trans r1
    have OWN2 : Hid (((w1.alloc (.cells (figV f) 89)).setCell ⟨(w.heap.size + 1 + 1), 2, none⟩ (.slice (some ⟨w1.heap.size, 0, none⟩) 1 1)).ownsRow w.heap.size 89 2 (.slice (some ⟨w1.heap.size, 0, none⟩) 1 1) [f].length (gcells figV [f])) := own_set OWN1.out rP (by decide) _
    have KP : Hid (_ ∧ _ ∧ _ ∧ _) := ⟨R1', G1', rP', r1'⟩
    clear R1 G1 rP r1 R1' G1' rP' r1' OWN1 hg1 hF z1'
    clear rP0
    go_wp2_with (first
      | (refine wl_buildE (E := FigE) FigOk rfl _ rfl (figV f) rfl rfl ?_))
    refine (C5.out _ T1 KP.out.1).mono ?_
    by_cases hk : (hd E T1).kind = 5
    · obtain ⟨T2, hO, hf4⟩ := rdO_yes (by decide) hk
      rw [hf4]
      rw [hO] at HA
      clear hk hO hf4 c2 f2
      rintro e w2 ⟨hg2, ⟨v, rfl, rfl⟩, R2⟩
      have z2 : w1.heap.size + 1 ≤ w2.heap.size := by have := hg2.size; rw [tc_size] at this; simpa using this
      have rP2 : w2.heap[(w.heap.size + 1 + 1)]? = some (.cells (claV ⟨t.text, (t.pos : Int), [], false, false⟩ (.slice (some ⟨w1.heap.size, 0, none⟩) 1 1)) 129 (0, 0)) := (hg2.block _ (by rw [tc_size]; simp; omega) (by simp; omega)).trans KP.out.2.2.1
      have r12 : w2.heap[w.heap.size + 1]? = some (.cells (claV ⟨[], 0, [], false, false⟩ (.slice none 0 0)) 129 (0, 0)) := (hg2.block _ (by rw [tc_size]; simp; omega) (by simp; omega)).trans KP.out.2.2.2
      have c3 : w2.cell? ⟨(w.heap.size + 1 + 1), 4, none⟩ = some (.bool false) := by rw [cell_of_row _ _ _ _ _ _ rP2]; rfl
      have f3 : w2.frozen? ⟨(w.heap.size + 1 + 1), 4, none⟩ = false := tc_frozen rP2 rfl
      have rP3 : (w2.setCell ⟨(w.heap.size + 1 + 1), 4, none⟩ (.bool true)).heap[(w.heap.size + 1 + 1)]? = some (.cells (claV ⟨t.text, (t.pos : Int), [], false, true⟩ (.slice (some ⟨w1.heap.size, 0, none⟩) 1 1)) 129 (0, 0)) := tc_row rP2 _
      have r13 : (w2.setCell ⟨(w.heap.size + 1 + 1), 4, none⟩ (.bool true)).heap[w.heap.size + 1]? = some (.cells (claV ⟨[], 0, [], false, false⟩ (.slice none 0 0)) 129 (0, 0)) := (tc_far (by omega) _).trans r12
      have R3 : Rd W0 (w2.setCell ⟨(w.heap.size + 1 + 1), 4, none⟩ (.bool true)) g E T2 := rd_setCell R2 (by omega) (by omega) _ _
      have G3 : w.grownBy (w2.setCell ⟨(w.heap.size + 1 + 1), 4, none⟩ (.bool true)) (some g) := gb_setCell (grown_trans KP.out.2.1 hg2) (.inr (by omega)) _ _
      have OWN3 : Hid ((w2.setCell ⟨(w.heap.size + 1 + 1), 4, none⟩ (.bool true)).ownsRow w.heap.size 89 2 (.slice (some ⟨w1.heap.size, 0, none⟩) 1 1) [f].length (gcells figV [f])) := own_set (own_by hg2 hgl.2 OWN2.out) rP2 (by decide) _
      have d3 : (w2.setCell ⟨(w.heap.size + 1 + 1), 4, none⟩ (.bool true)).cell? ⟨(w.heap.size + 1 + 1), 3, none⟩ = some (.bool false) := by rw [cell_of_row _ _ _ _ _ _ rP3]; rfl
      have d4 : (w2.setCell ⟨(w.heap.size + 1 + 1), 4, none⟩ (.bool true)).cell? ⟨(w.heap.size + 1 + 1), 4, none⟩ = some (.bool true) := by rw [cell_of_row _ _ _ _ _ _ rP3]; rfl
      have K3 : Hid (_ ∧ _ ∧ _ ∧ _) := ⟨R3, G3, rP3, r13⟩
      clear hg2 R2 rP2 r12 rP3 r13 R3 G3 OWN2 KP
      go_wp2_with fail
      obtain ⟨w4, hw4⟩ : ∃ w4, w4 = w2.setCell ⟨(w.heap.size + 1 + 1), 4, none⟩ (.bool true) := ⟨_, rfl⟩
      rw [← hw4] at K3 OWN3 ⊢
      have z4 : w4.heap.size = w2.heap.size := by rw [hw4, tc_size]
      clear hw4 d3 d4 c3 f3
      cases hF2 : takeF E T2 with
      | error x =>
        obtain ⟨c, q⟩ := x
        rw [hF2] at HA
        refine own15_panics (Nat.le_of_ble_eq_true rfl) g (w.heap.size + 1 + 1) rfl rfl _ K3.out.2.2.1 (.slice (some ⟨w1.heap.size, 0, none⟩) 1 1) rfl [{ v := faultV c q, recovered := false }] (fun w' => w.grownBy w' (some g)) ?_ ?_
        · refine (CF.out w4.drew T2 (K3.out.1.below ((Below.refl _ _).drew))).mono ?_
          rw [hF2]
          rintro e w' ⟨hg, rfl⟩
          exact ⟨rfl, grown_trans K3.out.2.1 (grown_trans (gb_drew w4 g) hg)⟩
        · intro a' w' hdf hg
          go_wp2_with fail
          rw [HA.out]
          exact ⟨hdf, hg, rfl⟩
      | ok x =>
        obtain ⟨f2, T3⟩ := x
        rw [hF2] at HA
        refine own15_region (Nat.le_of_ble_eq_true rfl) g (w.heap.size + 1 + 1) rfl rfl _ K3.out.2.2.1 (.slice (some ⟨w1.heap.size, 0, none⟩) 1 1) rfl (by omega) [f] w.heap.size OWN3.out (by simp) (by omega) hgl.2 f2 (fun w' => w.grownBy w' (some g) ∧ Rd W0 w' g E T3) ?_ ?_
        · refine (CF.out w4.drew T2 (K3.out.1.below ((Below.refl _ _).drew))).mono ?_
          rw [hF2]
          rintro e w' ⟨hg, ⟨v, rfl, rfl⟩, R⟩
          exact ⟨rfl, hg, grown_trans K3.out.2.1 (grown_trans (gb_drew w4 g) hg), R⟩
        · rintro a' w5 w6 v' ⟨y0, y1, y2, y3, y4, y5, y6, rfl⟩ ⟨G5, R5⟩ hg5 hgr6 hown6 hp6
          simp only [Act.put, List.setIfInBounds_toArray, List.set_cons_succ, List.set_cons_zero]
          obtain ⟨o6, cap6, rfl⟩ := gown_slice hown6
          have z5 := hg5.size
          have z6 := hgr6.size
          have own5 := own_by hg5 hgl.2 OWN3.out
          have hub : ∀ k, ((.slice (some ⟨w1.heap.size, 0, none⟩) 1 1) : Value).ownBlock = some k → w.heap.size ≤ k := fun k hk => (OWN3.out.lt k hk).1
          have r16 : w6.heap[w.heap.size + 1]? = some (.cells (claV ⟨[], 0, [], false, false⟩ (.slice none 0 0)) 129 (0, 0)) := by
            refine (hgr6.block _ (by simp; omega) ?_).trans (heap_past _ _ _ _ ((hg5.block _ (by omega) (by simp; omega)).trans K3.out.2.2.2))
            intro hq
            have hx := hq.symm
            obtain ⟨_, ⟨hv, _⟩ | ⟨g', cap', cur', hv, _, h2, _⟩⟩ := OWN3.out
            · rw [hv] at hx; simp [Value.ownBlock] at hx
            · rw [hv] at hx
              simp only [Value.ownBlock, Option.some.injEq] at hx
              rw [hx, K3.out.2.2.2] at h2
              simp at h2
          have G6 : w.grownBy w6 (some g) := gb_own (gb_alloc G5 _) hgr6 hub
          have R6 : Rd W0 w6 g E T3 := rd_own (R5.alloc _) hgr6 fun k hk => Nat.lt_of_lt_of_le hgl.2 (hub k hk)
          have rP7 : Hid ((w6.setCell ⟨(w.heap.size + 1 + 1), 2, none⟩ (.slice o6 ([f] ++ [f2]).length cap6)).heap[(w.heap.size + 1 + 1)]? = some (.cells (claV ⟨t.text, (t.pos : Int), [f] ++ [f2], false, true⟩ (.slice o6 ([f] ++ [f2]).length cap6)) 129 (0, 0))) := tc_row hp6 _
          have r17 : Hid ((w6.setCell ⟨(w.heap.size + 1 + 1), 2, none⟩ (.slice o6 ([f] ++ [f2]).length cap6)).heap[w.heap.size + 1]? = some (.cells (claV ⟨[], 0, [], false, false⟩ (.slice none 0 0)) 129 (0, 0))) := (tc_far (by omega) _).trans r16
          have OWN7 : Hid ((w6.setCell ⟨(w.heap.size + 1 + 1), 2, none⟩ (.slice o6 ([f] ++ [f2]).length cap6)).ownsRow w.heap.size 89 2 (.slice o6 ([f] ++ [f2]).length cap6) ([f] ++ [f2]).length (gcells figV ([f] ++ [f2]))) := own_set hown6 hp6 (by decide) _
          have G7 : Hid (w.grownBy (w6.setCell ⟨(w.heap.size + 1 + 1), 2, none⟩ (.slice o6 ([f] ++ [f2]).length cap6)) (some g)) := gb_setCell G6 (.inr (by omega)) _ _
          have R7 : Hid (Rd W0 (w6.setCell ⟨(w.heap.size + 1 + 1), 2, none⟩ (.slice o6 ([f] ++ [f2]).length cap6)) g E T3) := rd_setCell R6 (by omega) (by omega) _ _
          clear hown6 hp6 r16 hgr6 own5 G6 R6 G5 R5 hg5
          go_wp2_with (first
            | (refine wl_loadE (E := ClaE) ClaOk rfl _ rfl (w.heap.size + 1 + 1) 0 rfl _ _ _ (claV ⟨t.text, (t.pos : Int), [f] ++ [f2], false, true⟩ (.slice o6 ([f] ++ [f2]).length cap6)) rfl rP7.out (own_cells _ _) ?_)
            | (refine wl_storeE (E := ClaE) ClaOk rfl _ _ rfl (w.heap.size + 1) (claV ⟨t.text, (t.pos : Int), [f] ++ [f2], false, true⟩ (.slice o6 ([f] ++ [f2]).length cap6)) (cla_fits _ _ ⟨_, _, _, rfl⟩) rfl rfl _ r17.out rfl _ rfl ?_))
          refine retE (E := ClaE) ClaOk rfl rfl (w.heap.size + 1) rfl (claV ⟨t.text, (t.pos : Int), [f] ++ [f2], false, true⟩ (.slice o6 ([f] ++ [f2]).length cap6)) rfl (setRow_heap _ _ _ _ _ _ r17.out) ?_
          rw [HA.out]
          exact ⟨gb_setRow G7.out (.inr (by omega)) _, ⟨_, rfl, _, rfl, own_setRow6 OWN7.out r17.out (by decide) _⟩, rd_setRow R7.out (by omega) (by omega) _⟩
    · obtain ⟨hO, hf4⟩ := rdO_no hk
      rw [hf4]
      rw [hO] at HA
      clear hk hO hf4 c2 f2
      rintro e w2 ⟨hg2, ⟨v, rfl, rfl⟩, R2⟩
      have z2 : w1.heap.size + 1 ≤ w2.heap.size := by have := hg2.size; rw [tc_size] at this; simpa using this
      have rP2 : w2.heap[(w.heap.size + 1 + 1)]? = some (.cells (claV ⟨t.text, (t.pos : Int), [], false, false⟩ (.slice (some ⟨w1.heap.size, 0, none⟩) 1 1)) 129 (0, 0)) := (hg2.block _ (by rw [tc_size]; simp; omega) (by simp; omega)).trans KP.out.2.2.1
      have r12 : w2.heap[w.heap.size + 1]? = some (.cells (claV ⟨[], 0, [], false, false⟩ (.slice none 0 0)) 129 (0, 0)) := (hg2.block _ (by rw [tc_size]; simp; omega) (by simp; omega)).trans KP.out.2.2.2
      have c3 : w2.cell? ⟨(w.heap.size + 1 + 1), 4, none⟩ = some (.bool false) := by rw [cell_of_row _ _ _ _ _ _ rP2]; rfl
      have f3 : w2.frozen? ⟨(w.heap.size + 1 + 1), 4, none⟩ = false := tc_frozen rP2 rfl
      have rP3 : (w2.setCell ⟨(w.heap.size + 1 + 1), 4, none⟩ (.bool false)).heap[(w.heap.size + 1 + 1)]? = some (.cells (claV ⟨t.text, (t.pos : Int), [f], false, false⟩ (.slice (some ⟨w1.heap.size, 0, none⟩) 1 1)) 129 (0, 0)) := tc_row rP2 _
      have r13 : (w2.setCell ⟨(w.heap.size + 1 + 1), 4, none⟩ (.bool false)).heap[w.heap.size + 1]? = some (.cells (claV ⟨[], 0, [], false, false⟩ (.slice none 0 0)) 129 (0, 0)) := (tc_far (by omega) _).trans r12
      have R3 : Rd W0 (w2.setCell ⟨(w.heap.size + 1 + 1), 4, none⟩ (.bool false)) g E T1 := rd_setCell R2 (by omega) (by omega) _ _
      have G3 : w.grownBy (w2.setCell ⟨(w.heap.size + 1 + 1), 4, none⟩ (.bool false)) (some g) := gb_setCell (grown_trans KP.out.2.1 hg2) (.inr (by omega)) _ _
      have OWN3 : Hid ((w2.setCell ⟨(w.heap.size + 1 + 1), 4, none⟩ (.bool false)).ownsRow w.heap.size 89 2 (.slice (some ⟨w1.heap.size, 0, none⟩) 1 1) [f].length (gcells figV [f])) := own_set (own_by hg2 hgl.2 OWN2.out) rP2 (by decide) _
      have d3 : (w2.setCell ⟨(w.heap.size + 1 + 1), 4, none⟩ (.bool false)).cell? ⟨(w.heap.size + 1 + 1), 3, none⟩ = some (.bool false) := by rw [cell_of_row _ _ _ _ _ _ rP3]; rfl
      have d4 : (w2.setCell ⟨(w.heap.size + 1 + 1), 4, none⟩ (.bool false)).cell? ⟨(w.heap.size + 1 + 1), 4, none⟩ = some (.bool false) := by rw [cell_of_row _ _ _ _ _ _ rP3]; rfl
      have K3 : Hid (_ ∧ _ ∧ _ ∧ _) := ⟨R3, G3, rP3, r13⟩
      have HA3 : Hid (A = .ok ((⟨t.text, (t.pos : Int), [f], false, false⟩ : Cla), T1)) := by show _ = _; rw [HA.out]; simp [Except.map]
      clear hg2 R2 rP2 r12 rP3 r13 R3 G3 OWN2 KP
      go_wp2_with (first
        | (refine wl_loadE (E := ClaE) ClaOk rfl _ rfl (w.heap.size + 1 + 1) 0 rfl _ _ _ (claV ⟨t.text, (t.pos : Int), [f], false, false⟩ (.slice (some ⟨w1.heap.size, 0, none⟩) 1 1)) rfl K3.out.2.2.1 (own_cells _ _) ?_)
        | (refine wl_storeE (E := ClaE) ClaOk rfl _ _ rfl (w.heap.size + 1) (claV ⟨t.text, (t.pos : Int), [f], false, false⟩ (.slice (some ⟨w1.heap.size, 0, none⟩) 1 1)) (cla_fits _ _ ⟨_, _, _, rfl⟩) rfl rfl _ K3.out.2.2.2 rfl _ rfl ?_))
      refine retE (E := ClaE) ClaOk rfl rfl (w.heap.size + 1) rfl (claV ⟨t.text, (t.pos : Int), [f], false, false⟩ (.slice (some ⟨w1.heap.size, 0, none⟩) 1 1)) rfl (setRow_heap _ _ _ _ _ _ K3.out.2.2.2) ?_
      rw [HA3.out]
      exact ⟨gb_setRow K3.out.2.1 (.inr (by omega)) _, ⟨_, rfl, _, rfl, own_setRow6 OWN3.out K3.out.2.2.2 (by decide) _⟩, rd_setRow K3.out.1 (by omega) (by omega) _⟩

set_option maxHeartbeats 4000000 in
set_option maxRecDepth 10000 in
theorem clause_proto (W0 w : World) (g E : Nat) (t : Tok) (ht : t.text = wProto) (T : List Tok) (h : Rd W0 w g E T) :
    Calls Tryz.prog 115 #[.pointer (some ⟨g, 0, none⟩), .agg (encT t)] w fun e w' => Took W0 w g E (ClaR w.heap.size) (protC E t T) e w' := by
  have CF : Hid (∀ W T, Rd W0 W g E T → Calls Tryz.prog 96 #[.pointer (some ⟨g, 0, none⟩)] W fun e w' => Took W0 W g E (fun _ f v => v = .agg (figV f)) (takeF E T) e w') := fun W T h => figure_any W0 W g E T h
  have CA : Hid (∀ W T, Rd W0 W g E T → Calls Tryz.prog 122 #[.pointer (some ⟨g, 0, none⟩)] W fun e w' => Took W0 W g E (FigsOwn W.heap.size) (addrT E T) e w') := fun W T h => address_any W0 W g E T h
  have C4 : Hid (∀ W T, Rd W0 W g E T → Calls Tryz.prog 123 #[.pointer (some ⟨g, 0, none⟩), .int .i64 4] W fun e w' => Took W0 W g E (fun _ b v => v = .bool b) (follT E 4 T) e w') := fun W T h => follows_any W0 W g E 4 (by decide) T h
  have C5 : Hid (∀ W T, Rd W0 W g E T → Calls Tryz.prog 123 #[.pointer (some ⟨g, 0, none⟩), .int .i64 5] W fun e w' => Took W0 W g E (fun _ b v => v = .bool b) (follT E 5 T) e w') := fun W T h => follows_any W0 W g E 5 (by decide) T h
  have hgl := h.size
  have e0 : (t.text == [115, 114, 99]) = false := by rw [ht]; rfl
  have e1 : (t.text == [100, 115, 116]) = false := by rw [ht]; rfl
  have e2 : (t.text == [115, 112, 111, 114, 116]) = false := by rw [ht]; rfl
  have e3 : (t.text == [100, 112, 111, 114, 116]) = false := by rw [ht]; rfl
  have e4 : (t.text == [112, 114, 111, 116, 111]) = true := by rw [ht]; rfl
  have H : Hid (Rd W0 w g E T) := h
  obtain ⟨A, hA⟩ : ∃ A, A = protC E t T := ⟨_, rfl⟩
  rw [← hA]
  unfold protC at hA
  have q1 := fun x => tok_cells (heap_past _ x _ _ (heap_new w (.cells (encT t) 117) _ rfl))
  have q2 := fun x y => tok_cells (heap_past _ y _ _ (heap_past _ x _ _ (heap_new w (.cells (encT t) 117) _ rfl)))
  have t1 := fun x => (q1 x).2.1
  have t2 := fun x => (q1 x).2.2.1
  have t5 := fun x y => (q2 x y).2.1
  have t6 := fun x y => (q2 x y).2.2.1
  clear q1 q2
  clear h ht
  go_enter Tryz.func115, Tryz.ntmps115
  go_wp2_with (first
    | (refine wl_storeE (E := ClaE) ClaOk rfl _ _ rfl (w.heap.size + 2) (claV ⟨t.text, (t.pos : Int), [], false, false⟩ (.slice none 0 0)) (cla_fits _ _ ⟨_, _, _, rfl⟩) rfl rfl _ (heap_new _ _ _ (by simp)) rfl _ (setRow_new _ _ _ _ _ (by simp)) ?_))
  refine (CF.out _ T (((H.out.alloc _).alloc _).alloc _)).mono ?_
  cases hF : takeF E T with
  | error x =>
    obtain ⟨c, q⟩ := x
    have HA2 : Hid (A = .error (c, q)) := by show _ = _; rw [hA, hF]; rfl
    clear hA hF
    rintro e w1 ⟨hg1, rfl⟩
    go_wp2_with fail
    rw [HA2.out]
    exact ⟨rfl, grown_trans (gb_alloc (gb_alloc (gb_alloc (gb_refl w g) _) _) _) hg1, rfl⟩
  | ok x =>
    obtain ⟨f, T1⟩ := x
    have HA : Hid (A = .ok ((⟨t.text, (t.pos : Int), [f], false, false⟩ : Cla), T1)) := by show _ = _; rw [hA, hF]; rfl
    clear hA
    rintro e w1 ⟨hg1, ⟨v, rfl, rfl⟩, R1⟩
    have G1 : w.grownBy w1 (some g) := grown_trans (gb_alloc (gb_alloc (gb_alloc (gb_refl w g) _) _) _) hg1
    have z1 : w.heap.size + 3 ≤ w1.heap.size := by have := hg1.size; simp at this; omega
    have r1 : w1.heap[w.heap.size + 1]? = some (.cells (claV ⟨[], 0, [], false, false⟩ (.slice none 0 0)) 129 (0, 0)) := (hg1.block _ (by simp) (by simp; omega)).trans (heap_past _ _ _ _ (heap_new _ _ _ (by simp)))
    have rP : w1.heap[(w.heap.size + 1 + 1)]? = some (.cells (claV ⟨t.text, (t.pos : Int), [], false, false⟩ (.slice none 0 0)) 129 (0, 0)) := (hg1.block _ (by simp) (by simp; omega)).trans (heap_new _ _ _ (by simp))
    have OWN1 : Hid ((w1.alloc (.cells (figV f) 89)).ownsRow w.heap.size 89 2 (.slice (some ⟨w1.heap.size, 0, none⟩) 1 1) [f].length (gcells figV [f])) := ⟨rfl, Or.inr ⟨w1.heap.size, 1, figV f, rfl, by omega, heap_new _ _ _ rfl, Nat.le_refl 1, by decide, rfl, rfl⟩⟩
    replace r1 := heap_past _ (.cells (figV f) 89) _ _ r1
    have rP0 := rP
    replace rP := heap_past _ (.cells (figV f) 89) _ _ rP
    replace R1 := R1.alloc (.cells (figV f) 89)
    replace G1 := gb_alloc G1 (.cells (figV f) 89)
    have z1' : (w1.alloc (.cells (figV f) 89)).heap.size = w1.heap.size + 1 := by simp
    have c2 : ∀ x, (w1.alloc x).cell? ⟨(w.heap.size + 1 + 1), 2, none⟩ = some (.slice none 0 0) := fun x => by rw [cell_of_row _ _ _ _ _ _ (heap_past _ x _ _ rP0)]; rfl
    have f2 : ∀ x, (w1.alloc x).frozen? ⟨(w.heap.size + 1 + 1), 2, none⟩ = false := fun x => tc_frozen (heap_past _ x _ _ rP0) rfl
    have R1' : Rd W0 ((w1.alloc (.cells (figV f) 89)).setCell ⟨(w.heap.size + 1 + 1), 2, none⟩ (.slice (some ⟨w1.heap.size, 0, none⟩) 1 1)) g E T1 := rd_setCell R1 (by omega) (by omega) _ _
    have G1' : w.grownBy ((w1.alloc (.cells (figV f) 89)).setCell ⟨(w.heap.size + 1 + 1), 2, none⟩ (.slice (some ⟨w1.heap.size, 0, none⟩) 1 1)) (some g) := gb_setCell G1 (.inr (by omega)) _ _
    have rP' : ((w1.alloc (.cells (figV f) 89)).setCell ⟨(w.heap.size + 1 + 1), 2, none⟩ (.slice (some ⟨w1.heap.size, 0, none⟩) 1 1)).heap[(w.heap.size + 1 + 1)]? = some (.cells (claV ⟨t.text, (t.pos : Int), [], false, false⟩ (.slice (some ⟨w1.heap.size, 0, none⟩) 1 1)) 129 (0, 0)) := tc_row rP _
    have r1' : ((w1.alloc (.cells (figV f) 89)).setCell ⟨(w.heap.size + 1 + 1), 2, none⟩ (.slice (some ⟨w1.heap.size, 0, none⟩) 1 1)).heap[w.heap.size + 1]? = some (.cells (claV ⟨[], 0, [], false, false⟩ (.slice none 0 0)) 129 (0, 0)) := (tc_far (by omega) _).trans r1
    have OWN2 : Hid (((w1.alloc (.cells (figV f) 89)).setCell ⟨(w.heap.size + 1 + 1), 2, none⟩ (.slice (some ⟨w1.heap.size, 0, none⟩) 1 1)).ownsRow w.heap.size 89 2 (.slice (some ⟨w1.heap.size, 0, none⟩) 1 1) [f].length (gcells figV [f])) := own_set OWN1.out rP (by decide) _
    have KP : Hid (_ ∧ _ ∧ _ ∧ _) := ⟨R1', G1', rP', r1'⟩
    clear R1 G1 rP r1 R1' G1' rP' r1' OWN1 hg1 hF z1'
    have c3 : ∀ x y, ((w1.alloc x).setCell ⟨(w.heap.size + 1 + 1), 2, none⟩ y).cell? ⟨(w.heap.size + 1 + 1), 3, none⟩ = some (.bool false) := fun x y => by rw [cell_of_row _ _ _ _ _ _ (tc_row (heap_past _ x _ _ rP0) y)]; rfl
    have c4 : ∀ x y, ((w1.alloc x).setCell ⟨(w.heap.size + 1 + 1), 2, none⟩ y).cell? ⟨(w.heap.size + 1 + 1), 4, none⟩ = some (.bool false) := fun x y => by rw [cell_of_row _ _ _ _ _ _ (tc_row (heap_past _ x _ _ rP0) y)]; rfl
    clear rP0
    go_wp2_with (first
      | (refine wl_buildE (E := FigE) FigOk rfl _ rfl (figV f) rfl rfl ?_)
      | (refine wl_loadE (E := ClaE) ClaOk rfl _ rfl (w.heap.size + 1 + 1) 0 rfl _ _ _ (claV ⟨t.text, (t.pos : Int), [f], false, false⟩ (.slice (some ⟨w1.heap.size, 0, none⟩) 1 1)) rfl KP.out.2.2.1 (own_cells _ _) ?_)
      | (refine wl_storeE (E := ClaE) ClaOk rfl _ _ rfl (w.heap.size + 1) (claV ⟨t.text, (t.pos : Int), [f], false, false⟩ (.slice (some ⟨w1.heap.size, 0, none⟩) 1 1)) (cla_fits _ _ ⟨_, _, _, rfl⟩) rfl rfl _ KP.out.2.2.2 rfl _ rfl ?_))
    refine retE (E := ClaE) ClaOk rfl rfl (w.heap.size + 1) rfl (claV ⟨t.text, (t.pos : Int), [f], false, false⟩ (.slice (some ⟨w1.heap.size, 0, none⟩) 1 1)) rfl (setRow_heap _ _ _ _ _ _ KP.out.2.2.2) ?_
    rw [HA.out]
    exact ⟨gb_setRow KP.out.2.1 (.inr (by omega)) _, ⟨_, rfl, _, rfl, own_setRow6 OWN2.out KP.out.2.2.2 (by decide) _⟩, rd_setRow KP.out.1 (by omega) (by omega) _⟩
end Go.Proofs.YthddlchkbnmcaaaGreatDoor
