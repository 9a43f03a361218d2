import Derived.Test.YtbdbjbmjnemknaaDoorJ3
import Derived.Test.YtbdbjbmjnemknaaDoorJ1
import Derived.Shelf.Strconv.Clone
import Derived.WalkMore
namespace Go.Proofs.YtbdbjbmjnemknaaDoor
open Go Go.RowKit
set_option maxRecDepth 20000

/-- A clause behind its word: what its numbers come to. -/
def addrC (E : Nat) (t : Tok) (T : List Tok) : Res (Cla × List Tok) := (addrT E T).bind fun y => (takeO E 4 y.2).map fun z => (⟨t.text, (t.pos : Int), y.1 ++ z.1.toList, z.1.isSome, false⟩, z.2)
def portC (E : Nat) (t : Tok) (T : List Tok) : Res (Cla × List Tok) := (takeF E T).bind fun x => (takeO E 5 x.2).map fun z => (⟨t.text, (t.pos : Int), x.1 :: z.1.toList, false, z.1.isSome⟩, z.2)
def protC (E : Nat) (t : Tok) (T : List Tok) : Res (Cla × List Tok) := (takeF E T).map fun x => (⟨t.text, (t.pos : Int), [x.1], false, false⟩, x.2)
theorem takeD_len {E : Nat} : ∀ (n : Nat) {T : List Tok} {F : List Fig} {T1 : List Tok}, takeD E n T = .ok (F, T1) → F.length = n
  | 0, T, F, T1, h => by
    have h' : (Except.ok (([] : List Fig), T) : Res (List Fig × List Tok)) = .ok (F, T1) := h
    cases h'
    rfl
  | n + 1, T, F, T1, h => by
    rw [takeD] at h
    cases hK : takeK E 3 T with
    | error x => rw [hK] at h; cases h
    | ok x =>
      rw [hK] at h
      have h1 : ((takeF E x.2).bind fun y => (takeD E n y.2).map fun z => (y.1 :: z.1, z.2)) = .ok (F, T1) := h
      cases hF : takeF E x.2 with
      | error y => rw [hF] at h1; cases h1
      | ok y =>
        rw [hF] at h1
        have h2 : ((takeD E n y.2).map fun z => (y.1 :: z.1, z.2)) = .ok (F, T1) := h1
        cases hD : takeD E n y.2 with
        | error z => rw [hD] at h2; cases h2
        | ok z =>
          rw [hD] at h2
          have h3 : (Except.ok (y.1 :: z.1, z.2) : Res (List Fig × List Tok)) = .ok (F, T1) := h2
          simp at h3
          rw [← h3.1, List.length_cons, takeD_len n (F := z.1) (T1 := z.2) hD]
theorem addrT_len {E : Nat} {T : List Tok} {F : List Fig} {T1 : List Tok} (h : addrT E T = .ok (F, T1)) : F.length = 4 := by
  unfold addrT at h
  cases hF : takeF E T with
  | error y => rw [hF] at h; cases h
  | ok y =>
    rw [hF] at h
    have h2 : ((takeD E 3 y.2).map fun z => (y.1 :: z.1, z.2)) = .ok (F, T1) := h
    cases hD : takeD E 3 y.2 with
    | error z => rw [hD] at h2; cases h2
    | ok z =>
      rw [hD] at h2
      have h3 : (Except.ok (y.1 :: z.1, z.2) : Res (List Fig × List Tok)) = .ok (F, T1) := h2
      simp at h3
      rw [← h3.1, List.length_cons, takeD_len 3 (F := z.1) (T1 := z.2) hD]
theorem rdO_no {E k : Nat} {T : List Tok} (h : (hd E T).kind ≠ k) : takeO E k T = .ok (none, T) ∧ follT E k T = .ok (false, T) := by
  refine ⟨?_, if_neg h⟩
  cases T with
  | nil => rfl
  | cons t T => exact if_neg h
theorem rdO_yes {E k : Nat} (hk : k ≠ 0) {T : List Tok} (h : (hd E T).kind = k) : ∃ T', takeO E k T = (takeF E T').map (fun y => (some y.1, y.2)) ∧ follT E k T = .ok (true, T') := by
  cases T with
  | nil => exact absurd h.symm hk
  | cons t T => exact ⟨T, if_pos h, if_pos h⟩
/-- A clause that was made: its numbers lie in a row of their own. -/
def ClaR (B : Nat) (w : World) (c : Cla) (v : Value) : Prop := ∃ u, v = .agg (claV c u) ∧ FigsOwn B w c.nums u
theorem cla_fits (c : Cla) (u : Value) (hu : ∃ o n k, u = .slice o n k) : Fits ClaE (claV c u) := by
  obtain ⟨o, n, k, rfl⟩ := hu
  exact ⟨rfl, by simp [claV, Value.oneCell']⟩
theorem own_set {w : World} {B : Nat} {e e' : TypeId} {s : Nat} {v : Value} {n : Nat} {xs : List Value} (h : w.ownsRow B e s v n xs) {p i : Nat} {cs : Array Value} {fr : Nat × Nat} (hp : w.heap[p]? = some (.cells cs e' fr)) (hne : e ≠ e') (y : Value) : (w.setCell ⟨p, i, none⟩ y).ownsRow B e s v n xs := by
  obtain ⟨h0, h1 | ⟨g, cap, cur, rfl, hB, hcur, h3⟩⟩ := h
  · exact ⟨h0, .inl h1⟩
  · refine ⟨h0, .inr ⟨g, cap, cur, rfl, hB, ?_, h3⟩⟩
    rw [tc_far (by rintro rfl; rw [hp] at hcur; simp only [Option.some.injEq, Obj.cells.injEq] at hcur; exact hne hcur.2.1.symm) y]
    exact hcur
theorem own_setRow {w : World} {B : Nat} {e e' : TypeId} {s : Nat} {v : Value} {n : Nat} {xs : List Value} (h : w.ownsRow B e s v n xs) {p : Nat} {cs : Array Value} {fr : Nat × Nat} (hp : w.heap[p]? = some (.cells cs e' fr)) (hne : e ≠ e') (ys : Array Value) : (w.setRow p ys).ownsRow B e s v n xs := by
  obtain ⟨h0, h1 | ⟨g, cap, cur, rfl, hB, hcur, h3⟩⟩ := h
  · exact ⟨h0, .inl h1⟩
  · refine ⟨h0, .inr ⟨g, cap, cur, rfl, hB, ?_, h3⟩⟩
    rw [setRow_other _ _ _ _ (by rintro rfl; rw [hp] at hcur; simp only [Option.some.injEq, Obj.cells.injEq] at hcur; exact hne hcur.2.1.symm)]
    exact hcur

set_option maxHeartbeats 4000000 in
set_option maxRecDepth 10000 in
theorem clause_src (W0 w : World) (g E : Nat) (t : Tok) (ht : t.text = wSrc) (T : List Tok) (h : Rd W0 w g E T) :
    Calls Tryd.prog 73 #[.pointer (some ⟨g, 0, none⟩), .agg (encT t)] w fun e w' => Took W0 w g E (ClaR w.heap.size) (addrC E t T) e w' := by
  have CF : Hid (∀ W T, Rd W0 W g E T → Calls Tryd.prog 59 #[.pointer (some ⟨g, 0, none⟩)] W fun e w' => Took W0 W g E (fun _ f v => v = .agg (figV f)) (takeF E T) e w') := fun W T h => figure_any W0 W g E T h
  have CA : Hid (∀ W T, Rd W0 W g E T → Calls Tryd.prog 81 #[.pointer (some ⟨g, 0, none⟩)] W fun e w' => Took W0 W g E (FigsOwn W.heap.size) (addrT E T) e w') := fun W T h => address_any W0 W g E T h
  have C4 : Hid (∀ W T, Rd W0 W g E T → Calls Tryd.prog 82 #[.pointer (some ⟨g, 0, none⟩), .int .i64 4] W fun e w' => Took W0 W g E (fun _ b v => v = .bool b) (follT E 4 T) e w') := fun W T h => follows_any W0 W g E 4 (by decide) T h
  have C5 : Hid (∀ W T, Rd W0 W g E T → Calls Tryd.prog 82 #[.pointer (some ⟨g, 0, none⟩), .int .i64 5] W fun e w' => Took W0 W g E (fun _ b v => v = .bool b) (follT E 5 T) e w') := fun W T h => follows_any W0 W g E 5 (by decide) T h
  have hgl := h.size
  have e0 : (t.text == [115, 114, 99]) = true := by rw [ht]; rfl
  have H : Hid (Rd W0 w g E T) := h
  obtain ⟨A, hA⟩ : ∃ A, A = addrC E t T := ⟨_, rfl⟩
  rw [← hA]
  unfold addrC at hA
  have q1 := fun x => tok_cells (heap_past _ x _ _ (heap_new w (.cells (encT t) 87) _ rfl))
  have q2 := fun x y => tok_cells (heap_past _ y _ _ (heap_past _ x _ _ (heap_new w (.cells (encT t) 87) _ rfl)))
  have t1 := fun x => (q1 x).2.1
  have t2 := fun x => (q1 x).2.2.1
  have t5 := fun x y => (q2 x y).2.1
  have t6 := fun x y => (q2 x y).2.2.1
  clear q1 q2
  clear h ht
  go_enter Tryd.func73, Tryd.ntmps73
  go_wp2_with (first
    | (refine wl_storeE (E := ClaE) ClaOk rfl _ _ rfl (w.heap.size + 2) (claV ⟨t.text, (t.pos : Int), [], false, false⟩ (.slice none 0 0)) (cla_fits _ _ ⟨_, _, _, rfl⟩) rfl rfl _ (heap_new _ _ _ (by simp)) rfl _ (setRow_new _ _ _ _ _ (by simp)) ?_))
  refine (CA.out _ T (((H.out.alloc _).alloc _).alloc _)).mono ?_
  cases hF : addrT E T with
  | error x =>
    obtain ⟨c, q⟩ := x
    have HA2 : Hid (A = .error (c, q)) := by show _ = _; rw [hA, hF]; rfl
    clear hA hF
    rintro e w1 ⟨hg1, rfl⟩
    go_wp2_with fail
    rw [HA2.out]
    exact ⟨rfl, grown_trans (gb_alloc (gb_alloc (gb_alloc (gb_refl w g) _) _) _) hg1, rfl⟩
  | ok x =>
    obtain ⟨F, T1⟩ := x
    have HA : Hid (A = (takeO E 4 T1).map fun z => ((⟨t.text, (t.pos : Int), F ++ z.1.toList, z.1.isSome, false⟩ : Cla), z.2)) := by show _ = _; rw [hA, hF]; rfl
    have HFL : Hid (F.length = 4) := addrT_len hF
    clear hA
    rintro e w1 ⟨hg1, ⟨u, rfl, hown1⟩, R1⟩
    obtain ⟨o, cap, rfl⟩ := gown_slice hown1
    have OWN1 : Hid (w1.ownsRow w.heap.size 52 2 (.slice o F.length cap) F.length (gcells figV F)) := gown_base hown1 (by simp; omega)
    have G1 : w.grownBy w1 (some g) := grown_trans (gb_alloc (gb_alloc (gb_alloc (gb_refl w g) _) _) _) hg1
    have z1 : w.heap.size + 3 ≤ w1.heap.size := by have := hg1.size; simp at this; omega
    have r1 : w1.heap[w.heap.size + 1]? = some (.cells (claV ⟨[], 0, [], false, false⟩ (.slice none 0 0)) 76 (0, 0)) := (hg1.block _ (by simp) (by simp; omega)).trans (heap_past _ _ _ _ (heap_new _ _ _ (by simp)))
    have rP : w1.heap[(w.heap.size + 1 + 1)]? = some (.cells (claV ⟨t.text, (t.pos : Int), [], false, false⟩ (.slice none 0 0)) 76 (0, 0)) := (hg1.block _ (by simp) (by simp; omega)).trans (heap_new _ _ _ (by simp))
    have c2 : w1.cell? ⟨(w.heap.size + 1 + 1), 2, none⟩ = some (.slice none 0 0) := by rw [cell_of_row _ _ _ _ _ _ rP]; rfl
    have f2 : w1.frozen? ⟨(w.heap.size + 1 + 1), 2, none⟩ = false := tc_frozen rP rfl
    have R1' : Rd W0 (w1.setCell ⟨(w.heap.size + 1 + 1), 2, none⟩ (.slice o F.length cap)) g E T1 := rd_setCell R1 (by omega) (by omega) _ _
    have G1' : w.grownBy (w1.setCell ⟨(w.heap.size + 1 + 1), 2, none⟩ (.slice o F.length cap)) (some g) := gb_setCell G1 (.inr (by omega)) _ _
    have rP' : (w1.setCell ⟨(w.heap.size + 1 + 1), 2, none⟩ (.slice o F.length cap)).heap[(w.heap.size + 1 + 1)]? = some (.cells (claV ⟨t.text, (t.pos : Int), [], false, false⟩ (.slice o F.length cap)) 76 (0, 0)) := tc_row rP _
    have r1' : (w1.setCell ⟨(w.heap.size + 1 + 1), 2, none⟩ (.slice o F.length cap)).heap[w.heap.size + 1]? = some (.cells (claV ⟨[], 0, [], false, false⟩ (.slice none 0 0)) 76 (0, 0)) := (tc_far (by omega) _).trans r1
    have OWN2 : Hid ((w1.setCell ⟨(w.heap.size + 1 + 1), 2, none⟩ (.slice o F.length cap)).ownsRow w.heap.size 52 2 (.slice o F.length cap) F.length (gcells figV F)) := own_set OWN1.out rP (by decide) _
    have KP : Hid (_ ∧ _ ∧ _ ∧ _) := ⟨R1', G1', rP', r1'⟩
    clear R1 G1 rP r1 R1' G1' rP' r1' OWN1 hg1 hF
    go_wp2_with fail
    refine (C4.out _ T1 KP.out.1).mono ?_
    by_cases hk : (hd E T1).kind = 4
    · obtain ⟨T2, hO, hf4⟩ := rdO_yes (by decide) hk
      rw [hf4]
      rw [hO] at HA
      clear hk hO hf4 c2 f2
      rintro e w2 ⟨hg2, ⟨v, rfl, rfl⟩, R2⟩
      have z2 : w1.heap.size ≤ w2.heap.size := by have := hg2.size; rw [tc_size] at this; simpa using this
      have rP2 : w2.heap[(w.heap.size + 1 + 1)]? = some (.cells (claV ⟨t.text, (t.pos : Int), [], false, false⟩ (.slice o F.length cap)) 76 (0, 0)) := (hg2.block _ (by rw [tc_size]; omega) (by simp; omega)).trans KP.out.2.2.1
      have r12 : w2.heap[w.heap.size + 1]? = some (.cells (claV ⟨[], 0, [], false, false⟩ (.slice none 0 0)) 76 (0, 0)) := (hg2.block _ (by rw [tc_size]; omega) (by simp; omega)).trans KP.out.2.2.2
      have c3 : w2.cell? ⟨(w.heap.size + 1 + 1), 3, none⟩ = some (.bool false) := by rw [cell_of_row _ _ _ _ _ _ rP2]; rfl
      have f3 : w2.frozen? ⟨(w.heap.size + 1 + 1), 3, none⟩ = false := tc_frozen rP2 rfl
      have rP3 : (w2.setCell ⟨(w.heap.size + 1 + 1), 3, none⟩ (.bool true)).heap[(w.heap.size + 1 + 1)]? = some (.cells (claV ⟨t.text, (t.pos : Int), [], true, false⟩ (.slice o F.length cap)) 76 (0, 0)) := tc_row rP2 _
      have r13 : (w2.setCell ⟨(w.heap.size + 1 + 1), 3, none⟩ (.bool true)).heap[w.heap.size + 1]? = some (.cells (claV ⟨[], 0, [], false, false⟩ (.slice none 0 0)) 76 (0, 0)) := (tc_far (by omega) _).trans r12
      have R3 : Rd W0 (w2.setCell ⟨(w.heap.size + 1 + 1), 3, none⟩ (.bool true)) g E T2 := rd_setCell R2 (by omega) (by omega) _ _
      have G3 : w.grownBy (w2.setCell ⟨(w.heap.size + 1 + 1), 3, none⟩ (.bool true)) (some g) := gb_setCell (grown_trans KP.out.2.1 hg2) (.inr (by omega)) _ _
      have OWN3 : Hid ((w2.setCell ⟨(w.heap.size + 1 + 1), 3, none⟩ (.bool true)).ownsRow w.heap.size 52 2 (.slice o F.length cap) F.length (gcells figV F)) := own_set (own_by hg2 hgl.2 OWN2.out) rP2 (by decide) _
      have d3 : (w2.setCell ⟨(w.heap.size + 1 + 1), 3, none⟩ (.bool true)).cell? ⟨(w.heap.size + 1 + 1), 3, none⟩ = some (.bool true) := by rw [cell_of_row _ _ _ _ _ _ rP3]; rfl
      have d4 : (w2.setCell ⟨(w.heap.size + 1 + 1), 3, none⟩ (.bool true)).cell? ⟨(w.heap.size + 1 + 1), 4, none⟩ = some (.bool false) := by rw [cell_of_row _ _ _ _ _ _ rP3]; rfl
      have K3 : Hid (_ ∧ _ ∧ _ ∧ _) := ⟨R3, G3, rP3, r13⟩
      clear hg2 R2 rP2 r12 rP3 r13 R3 G3 OWN2 KP
      go_wp2_with fail
      obtain ⟨w4, hw4⟩ : ∃ w4, w4 = w2.setCell ⟨(w.heap.size + 1 + 1), 3, none⟩ (.bool true) := ⟨_, rfl⟩
      rw [← hw4] at K3 OWN3 ⊢
      have z4 : w4.heap.size = w2.heap.size := by rw [hw4, tc_size]
      clear hw4 d3 d4 c3 f3
      cases hF2 : takeF E T2 with
      | error x =>
        obtain ⟨c, q⟩ := x
        rw [hF2] at HA
        refine own15_panics (Nat.le_of_ble_eq_true rfl) g (w.heap.size + 1 + 1) rfl rfl _ K3.out.2.2.1 (.slice o F.length cap) rfl [{ v := faultV c q, recovered := false }] (fun w' => w.grownBy w' (some g)) ?_ ?_
        · refine (CF.out w4.drew T2 (K3.out.1.below ((Below.refl _ _).drew))).mono ?_
          rw [hF2]
          rintro e w' ⟨hg, rfl⟩
          exact ⟨rfl, grown_trans K3.out.2.1 (grown_trans (gb_drew w4 g) hg)⟩
        · intro a' w' hdf hg
          go_wp2_with fail
          rw [HA.out]
          exact ⟨hdf, hg, rfl⟩
      | ok x =>
        obtain ⟨f2, T3⟩ := x
        rw [hF2] at HA
        refine own15_region (Nat.le_of_ble_eq_true rfl) g (w.heap.size + 1 + 1) rfl rfl _ K3.out.2.2.1 (.slice o F.length cap) rfl (by omega) F w.heap.size OWN3.out (by have := HFL.out; omega) (by omega) hgl.2 f2 (fun w' => w.grownBy w' (some g) ∧ Rd W0 w' g E T3) ?_ ?_
        · refine (CF.out w4.drew T2 (K3.out.1.below ((Below.refl _ _).drew))).mono ?_
          rw [hF2]
          rintro e w' ⟨hg, ⟨v, rfl, rfl⟩, R⟩
          exact ⟨rfl, hg, grown_trans K3.out.2.1 (grown_trans (gb_drew w4 g) hg), R⟩
        · rintro a' w5 w6 v' ⟨y0, y1, y2, y3, y4, y5, y6, rfl⟩ ⟨G5, R5⟩ hg5 hgr6 hown6 hp6
          simp only [Act.put, List.setIfInBounds_toArray, List.set_cons_succ, List.set_cons_zero]
          obtain ⟨o6, cap6, rfl⟩ := gown_slice hown6
          have z5 := hg5.size
          have z6 := hgr6.size
          have own5 := own_by hg5 hgl.2 OWN3.out
          have hub : ∀ k, ((.slice o F.length cap) : Value).ownBlock = some k → w.heap.size ≤ k := fun k hk => (OWN3.out.lt k hk).1
          have r16 : w6.heap[w.heap.size + 1]? = some (.cells (claV ⟨[], 0, [], false, false⟩ (.slice none 0 0)) 76 (0, 0)) := by
            refine (hgr6.block _ (by simp; omega) ?_).trans (heap_past _ _ _ _ ((hg5.block _ (by omega) (by simp; omega)).trans K3.out.2.2.2))
            intro hq
            have hx := hq.symm
            obtain ⟨_, ⟨hv, _⟩ | ⟨g', cap', cur', hv, _, h2, _⟩⟩ := OWN3.out
            · rw [hv] at hx; simp [Value.ownBlock] at hx
            · rw [hv] at hx
              simp only [Value.ownBlock, Option.some.injEq] at hx
              rw [hx, K3.out.2.2.2] at h2
              simp at h2
          have G6 : w.grownBy w6 (some g) := gb_own (gb_alloc G5 _) hgr6 hub
          have R6 : Rd W0 w6 g E T3 := rd_own (R5.alloc _) hgr6 fun k hk => Nat.lt_of_lt_of_le hgl.2 (hub k hk)
          have rP7 : Hid ((w6.setCell ⟨(w.heap.size + 1 + 1), 2, none⟩ (.slice o6 (F ++ [f2]).length cap6)).heap[(w.heap.size + 1 + 1)]? = some (.cells (claV ⟨t.text, (t.pos : Int), F ++ [f2], true, false⟩ (.slice o6 (F ++ [f2]).length cap6)) 76 (0, 0))) := tc_row hp6 _
          have r17 : Hid ((w6.setCell ⟨(w.heap.size + 1 + 1), 2, none⟩ (.slice o6 (F ++ [f2]).length cap6)).heap[w.heap.size + 1]? = some (.cells (claV ⟨[], 0, [], false, false⟩ (.slice none 0 0)) 76 (0, 0))) := (tc_far (by omega) _).trans r16
          have OWN7 : Hid ((w6.setCell ⟨(w.heap.size + 1 + 1), 2, none⟩ (.slice o6 (F ++ [f2]).length cap6)).ownsRow w.heap.size 52 2 (.slice o6 (F ++ [f2]).length cap6) (F ++ [f2]).length (gcells figV (F ++ [f2]))) := own_set hown6 hp6 (by decide) _
          have G7 : Hid (w.grownBy (w6.setCell ⟨(w.heap.size + 1 + 1), 2, none⟩ (.slice o6 (F ++ [f2]).length cap6)) (some g)) := gb_setCell G6 (.inr (by omega)) _ _
          have R7 : Hid (Rd W0 (w6.setCell ⟨(w.heap.size + 1 + 1), 2, none⟩ (.slice o6 (F ++ [f2]).length cap6)) g E T3) := rd_setCell R6 (by omega) (by omega) _ _
          clear hown6 hp6 r16 hgr6 own5 G6 R6 G5 R5 hg5
          go_wp2_with (first
            | (refine wl_loadE (E := ClaE) ClaOk rfl _ rfl (w.heap.size + 1 + 1) 0 rfl _ _ _ (claV ⟨t.text, (t.pos : Int), F ++ [f2], true, false⟩ (.slice o6 (F ++ [f2]).length cap6)) rfl rP7.out (own_cells _ _) ?_)
            | (refine wl_storeE (E := ClaE) ClaOk rfl _ _ rfl (w.heap.size + 1) (claV ⟨t.text, (t.pos : Int), F ++ [f2], true, false⟩ (.slice o6 (F ++ [f2]).length cap6)) (cla_fits _ _ ⟨_, _, _, rfl⟩) rfl rfl _ r17.out rfl _ rfl ?_))
          refine retE (E := ClaE) ClaOk rfl rfl (w.heap.size + 1) rfl (claV ⟨t.text, (t.pos : Int), F ++ [f2], true, false⟩ (.slice o6 (F ++ [f2]).length cap6)) rfl (setRow_heap _ _ _ _ _ _ r17.out) ?_
          rw [HA.out]
          exact ⟨gb_setRow G7.out (.inr (by omega)) _, ⟨_, rfl, _, rfl, own_setRow OWN7.out r17.out (by decide) _⟩, rd_setRow R7.out (by omega) (by omega) _⟩
    · obtain ⟨hO, hf4⟩ := rdO_no hk
      rw [hf4]
      rw [hO] at HA
      clear hk hO hf4 c2 f2
      rintro e w2 ⟨hg2, ⟨v, rfl, rfl⟩, R2⟩
      have z2 : w1.heap.size ≤ w2.heap.size := by have := hg2.size; rw [tc_size] at this; simpa using this
      have rP2 : w2.heap[(w.heap.size + 1 + 1)]? = some (.cells (claV ⟨t.text, (t.pos : Int), [], false, false⟩ (.slice o F.length cap)) 76 (0, 0)) := (hg2.block _ (by rw [tc_size]; omega) (by simp; omega)).trans KP.out.2.2.1
      have r12 : w2.heap[w.heap.size + 1]? = some (.cells (claV ⟨[], 0, [], false, false⟩ (.slice none 0 0)) 76 (0, 0)) := (hg2.block _ (by rw [tc_size]; omega) (by simp; omega)).trans KP.out.2.2.2
      have c3 : w2.cell? ⟨(w.heap.size + 1 + 1), 3, none⟩ = some (.bool false) := by rw [cell_of_row _ _ _ _ _ _ rP2]; rfl
      have f3 : w2.frozen? ⟨(w.heap.size + 1 + 1), 3, none⟩ = false := tc_frozen rP2 rfl
      have rP3 : (w2.setCell ⟨(w.heap.size + 1 + 1), 3, none⟩ (.bool false)).heap[(w.heap.size + 1 + 1)]? = some (.cells (claV ⟨t.text, (t.pos : Int), F, false, false⟩ (.slice o F.length cap)) 76 (0, 0)) := tc_row rP2 _
      have r13 : (w2.setCell ⟨(w.heap.size + 1 + 1), 3, none⟩ (.bool false)).heap[w.heap.size + 1]? = some (.cells (claV ⟨[], 0, [], false, false⟩ (.slice none 0 0)) 76 (0, 0)) := (tc_far (by omega) _).trans r12
      have R3 : Rd W0 (w2.setCell ⟨(w.heap.size + 1 + 1), 3, none⟩ (.bool false)) g E T1 := rd_setCell R2 (by omega) (by omega) _ _
      have G3 : w.grownBy (w2.setCell ⟨(w.heap.size + 1 + 1), 3, none⟩ (.bool false)) (some g) := gb_setCell (grown_trans KP.out.2.1 hg2) (.inr (by omega)) _ _
      have OWN3 : Hid ((w2.setCell ⟨(w.heap.size + 1 + 1), 3, none⟩ (.bool false)).ownsRow w.heap.size 52 2 (.slice o F.length cap) F.length (gcells figV F)) := own_set (own_by hg2 hgl.2 OWN2.out) rP2 (by decide) _
      have d3 : (w2.setCell ⟨(w.heap.size + 1 + 1), 3, none⟩ (.bool false)).cell? ⟨(w.heap.size + 1 + 1), 3, none⟩ = some (.bool false) := by rw [cell_of_row _ _ _ _ _ _ rP3]; rfl
      have d4 : (w2.setCell ⟨(w.heap.size + 1 + 1), 3, none⟩ (.bool false)).cell? ⟨(w.heap.size + 1 + 1), 4, none⟩ = some (.bool false) := by rw [cell_of_row _ _ _ _ _ _ rP3]; rfl
      have K3 : Hid (_ ∧ _ ∧ _ ∧ _) := ⟨R3, G3, rP3, r13⟩
      have HA3 : Hid (A = .ok ((⟨t.text, (t.pos : Int), F, false, false⟩ : Cla), T1)) := by show _ = _; rw [HA.out]; simp [Except.map]
      clear hg2 R2 rP2 r12 rP3 r13 R3 G3 OWN2 KP
      go_wp2_with (first
        | (refine wl_loadE (E := ClaE) ClaOk rfl _ rfl (w.heap.size + 1 + 1) 0 rfl _ _ _ (claV ⟨t.text, (t.pos : Int), F, false, false⟩ (.slice o F.length cap)) rfl K3.out.2.2.1 (own_cells _ _) ?_)
        | (refine wl_storeE (E := ClaE) ClaOk rfl _ _ rfl (w.heap.size + 1) (claV ⟨t.text, (t.pos : Int), F, false, false⟩ (.slice o F.length cap)) (cla_fits _ _ ⟨_, _, _, rfl⟩) rfl rfl _ K3.out.2.2.2 rfl _ rfl ?_))
      refine retE (E := ClaE) ClaOk rfl rfl (w.heap.size + 1) rfl (claV ⟨t.text, (t.pos : Int), F, false, false⟩ (.slice o F.length cap)) rfl (setRow_heap _ _ _ _ _ _ K3.out.2.2.2) ?_
      rw [HA3.out]
      exact ⟨gb_setRow K3.out.2.1 (.inr (by omega)) _, ⟨_, rfl, _, rfl, own_setRow OWN3.out K3.out.2.2.2 (by decide) _⟩, rd_setRow K3.out.1 (by omega) (by omega) _⟩

set_option maxHeartbeats 4000000 in
set_option maxRecDepth 10000 in
theorem clause_dst (W0 w : World) (g E : Nat) (t : Tok) (ht : t.text = wDst) (T : List Tok) (h : Rd W0 w g E T) :
    Calls Tryd.prog 73 #[.pointer (some ⟨g, 0, none⟩), .agg (encT t)] w fun e w' => Took W0 w g E (ClaR w.heap.size) (addrC E t T) e w' := by
  have CF : Hid (∀ W T, Rd W0 W g E T → Calls Tryd.prog 59 #[.pointer (some ⟨g, 0, none⟩)] W fun e w' => Took W0 W g E (fun _ f v => v = .agg (figV f)) (takeF E T) e w') := fun W T h => figure_any W0 W g E T h
  have CA : Hid (∀ W T, Rd W0 W g E T → Calls Tryd.prog 81 #[.pointer (some ⟨g, 0, none⟩)] W fun e w' => Took W0 W g E (FigsOwn W.heap.size) (addrT E T) e w') := fun W T h => address_any W0 W g E T h
  have C4 : Hid (∀ W T, Rd W0 W g E T → Calls Tryd.prog 82 #[.pointer (some ⟨g, 0, none⟩), .int .i64 4] W fun e w' => Took W0 W g E (fun _ b v => v = .bool b) (follT E 4 T) e w') := fun W T h => follows_any W0 W g E 4 (by decide) T h
  have C5 : Hid (∀ W T, Rd W0 W g E T → Calls Tryd.prog 82 #[.pointer (some ⟨g, 0, none⟩), .int .i64 5] W fun e w' => Took W0 W g E (fun _ b v => v = .bool b) (follT E 5 T) e w') := fun W T h => follows_any W0 W g E 5 (by decide) T h
  have hgl := h.size
  have e0 : (t.text == [115, 114, 99]) = false := by rw [ht]; rfl
  have e1 : (t.text == [100, 115, 116]) = true := by rw [ht]; rfl
  have H : Hid (Rd W0 w g E T) := h
  obtain ⟨A, hA⟩ : ∃ A, A = addrC E t T := ⟨_, rfl⟩
  rw [← hA]
  unfold addrC at hA
  have q1 := fun x => tok_cells (heap_past _ x _ _ (heap_new w (.cells (encT t) 87) _ rfl))
  have q2 := fun x y => tok_cells (heap_past _ y _ _ (heap_past _ x _ _ (heap_new w (.cells (encT t) 87) _ rfl)))
  have t1 := fun x => (q1 x).2.1
  have t2 := fun x => (q1 x).2.2.1
  have t5 := fun x y => (q2 x y).2.1
  have t6 := fun x y => (q2 x y).2.2.1
  clear q1 q2
  clear h ht
  go_enter Tryd.func73, Tryd.ntmps73
  go_wp2_with (first
    | (refine wl_storeE (E := ClaE) ClaOk rfl _ _ rfl (w.heap.size + 2) (claV ⟨t.text, (t.pos : Int), [], false, false⟩ (.slice none 0 0)) (cla_fits _ _ ⟨_, _, _, rfl⟩) rfl rfl _ (heap_new _ _ _ (by simp)) rfl _ (setRow_new _ _ _ _ _ (by simp)) ?_))
  refine (CA.out _ T (((H.out.alloc _).alloc _).alloc _)).mono ?_
  cases hF : addrT E T with
  | error x =>
    obtain ⟨c, q⟩ := x
    have HA2 : Hid (A = .error (c, q)) := by show _ = _; rw [hA, hF]; rfl
    clear hA hF
    rintro e w1 ⟨hg1, rfl⟩
    go_wp2_with fail
    rw [HA2.out]
    exact ⟨rfl, grown_trans (gb_alloc (gb_alloc (gb_alloc (gb_refl w g) _) _) _) hg1, rfl⟩
  | ok x =>
    obtain ⟨F, T1⟩ := x
    have HA : Hid (A = (takeO E 4 T1).map fun z => ((⟨t.text, (t.pos : Int), F ++ z.1.toList, z.1.isSome, false⟩ : Cla), z.2)) := by show _ = _; rw [hA, hF]; rfl
    have HFL : Hid (F.length = 4) := addrT_len hF
    clear hA
    rintro e w1 ⟨hg1, ⟨u, rfl, hown1⟩, R1⟩
    obtain ⟨o, cap, rfl⟩ := gown_slice hown1
    have OWN1 : Hid (w1.ownsRow w.heap.size 52 2 (.slice o F.length cap) F.length (gcells figV F)) := gown_base hown1 (by simp; omega)
    have G1 : w.grownBy w1 (some g) := grown_trans (gb_alloc (gb_alloc (gb_alloc (gb_refl w g) _) _) _) hg1
    have z1 : w.heap.size + 3 ≤ w1.heap.size := by have := hg1.size; simp at this; omega
    have r1 : w1.heap[w.heap.size + 1]? = some (.cells (claV ⟨[], 0, [], false, false⟩ (.slice none 0 0)) 76 (0, 0)) := (hg1.block _ (by simp) (by simp; omega)).trans (heap_past _ _ _ _ (heap_new _ _ _ (by simp)))
    have rP : w1.heap[(w.heap.size + 1 + 1)]? = some (.cells (claV ⟨t.text, (t.pos : Int), [], false, false⟩ (.slice none 0 0)) 76 (0, 0)) := (hg1.block _ (by simp) (by simp; omega)).trans (heap_new _ _ _ (by simp))
    have c2 : w1.cell? ⟨(w.heap.size + 1 + 1), 2, none⟩ = some (.slice none 0 0) := by rw [cell_of_row _ _ _ _ _ _ rP]; rfl
    have f2 : w1.frozen? ⟨(w.heap.size + 1 + 1), 2, none⟩ = false := tc_frozen rP rfl
    have R1' : Rd W0 (w1.setCell ⟨(w.heap.size + 1 + 1), 2, none⟩ (.slice o F.length cap)) g E T1 := rd_setCell R1 (by omega) (by omega) _ _
    have G1' : w.grownBy (w1.setCell ⟨(w.heap.size + 1 + 1), 2, none⟩ (.slice o F.length cap)) (some g) := gb_setCell G1 (.inr (by omega)) _ _
    have rP' : (w1.setCell ⟨(w.heap.size + 1 + 1), 2, none⟩ (.slice o F.length cap)).heap[(w.heap.size + 1 + 1)]? = some (.cells (claV ⟨t.text, (t.pos : Int), [], false, false⟩ (.slice o F.length cap)) 76 (0, 0)) := tc_row rP _
    have r1' : (w1.setCell ⟨(w.heap.size + 1 + 1), 2, none⟩ (.slice o F.length cap)).heap[w.heap.size + 1]? = some (.cells (claV ⟨[], 0, [], false, false⟩ (.slice none 0 0)) 76 (0, 0)) := (tc_far (by omega) _).trans r1
    have OWN2 : Hid ((w1.setCell ⟨(w.heap.size + 1 + 1), 2, none⟩ (.slice o F.length cap)).ownsRow w.heap.size 52 2 (.slice o F.length cap) F.length (gcells figV F)) := own_set OWN1.out rP (by decide) _
    have KP : Hid (_ ∧ _ ∧ _ ∧ _) := ⟨R1', G1', rP', r1'⟩
    clear R1 G1 rP r1 R1' G1' rP' r1' OWN1 hg1 hF
    go_wp2_with fail
    refine (C4.out _ T1 KP.out.1).mono ?_
    by_cases hk : (hd E T1).kind = 4
    · obtain ⟨T2, hO, hf4⟩ := rdO_yes (by decide) hk
      rw [hf4]
      rw [hO] at HA
      clear hk hO hf4 c2 f2
      rintro e w2 ⟨hg2, ⟨v, rfl, rfl⟩, R2⟩
      have z2 : w1.heap.size ≤ w2.heap.size := by have := hg2.size; rw [tc_size] at this; simpa using this
      have rP2 : w2.heap[(w.heap.size + 1 + 1)]? = some (.cells (claV ⟨t.text, (t.pos : Int), [], false, false⟩ (.slice o F.length cap)) 76 (0, 0)) := (hg2.block _ (by rw [tc_size]; omega) (by simp; omega)).trans KP.out.2.2.1
      have r12 : w2.heap[w.heap.size + 1]? = some (.cells (claV ⟨[], 0, [], false, false⟩ (.slice none 0 0)) 76 (0, 0)) := (hg2.block _ (by rw [tc_size]; omega) (by simp; omega)).trans KP.out.2.2.2
      have c3 : w2.cell? ⟨(w.heap.size + 1 + 1), 3, none⟩ = some (.bool false) := by rw [cell_of_row _ _ _ _ _ _ rP2]; rfl
      have f3 : w2.frozen? ⟨(w.heap.size + 1 + 1), 3, none⟩ = false := tc_frozen rP2 rfl
      have rP3 : (w2.setCell ⟨(w.heap.size + 1 + 1), 3, none⟩ (.bool true)).heap[(w.heap.size + 1 + 1)]? = some (.cells (claV ⟨t.text, (t.pos : Int), [], true, false⟩ (.slice o F.length cap)) 76 (0, 0)) := tc_row rP2 _
      have r13 : (w2.setCell ⟨(w.heap.size + 1 + 1), 3, none⟩ (.bool true)).heap[w.heap.size + 1]? = some (.cells (claV ⟨[], 0, [], false, false⟩ (.slice none 0 0)) 76 (0, 0)) := (tc_far (by omega) _).trans r12
      have R3 : Rd W0 (w2.setCell ⟨(w.heap.size + 1 + 1), 3, none⟩ (.bool true)) g E T2 := rd_setCell R2 (by omega) (by omega) _ _
      have G3 : w.grownBy (w2.setCell ⟨(w.heap.size + 1 + 1), 3, none⟩ (.bool true)) (some g) := gb_setCell (grown_trans KP.out.2.1 hg2) (.inr (by omega)) _ _
      have OWN3 : Hid ((w2.setCell ⟨(w.heap.size + 1 + 1), 3, none⟩ (.bool true)).ownsRow w.heap.size 52 2 (.slice o F.length cap) F.length (gcells figV F)) := own_set (own_by hg2 hgl.2 OWN2.out) rP2 (by decide) _
      have d3 : (w2.setCell ⟨(w.heap.size + 1 + 1), 3, none⟩ (.bool true)).cell? ⟨(w.heap.size + 1 + 1), 3, none⟩ = some (.bool true) := by rw [cell_of_row _ _ _ _ _ _ rP3]; rfl
      have d4 : (w2.setCell ⟨(w.heap.size + 1 + 1), 3, none⟩ (.bool true)).cell? ⟨(w.heap.size + 1 + 1), 4, none⟩ = some (.bool false) := by rw [cell_of_row _ _ _ _ _ _ rP3]; rfl
      have K3 : Hid (_ ∧ _ ∧ _ ∧ _) := ⟨R3, G3, rP3, r13⟩
      clear hg2 R2 rP2 r12 rP3 r13 R3 G3 OWN2 KP
      go_wp2_with fail
      obtain ⟨w4, hw4⟩ : ∃ w4, w4 = w2.setCell ⟨(w.heap.size + 1 + 1), 3, none⟩ (.bool true) := ⟨_, rfl⟩
      rw [← hw4] at K3 OWN3 ⊢
      have z4 : w4.heap.size = w2.heap.size := by rw [hw4, tc_size]
      clear hw4 d3 d4 c3 f3
      cases hF2 : takeF E T2 with
      | error x =>
        obtain ⟨c, q⟩ := x
        rw [hF2] at HA
        refine own15_panics (Nat.le_of_ble_eq_true rfl) g (w.heap.size + 1 + 1) rfl rfl _ K3.out.2.2.1 (.slice o F.length cap) rfl [{ v := faultV c q, recovered := false }] (fun w' => w.grownBy w' (some g)) ?_ ?_
        · refine (CF.out w4.drew T2 (K3.out.1.below ((Below.refl _ _).drew))).mono ?_
          rw [hF2]
          rintro e w' ⟨hg, rfl⟩
          exact ⟨rfl, grown_trans K3.out.2.1 (grown_trans (gb_drew w4 g) hg)⟩
        · intro a' w' hdf hg
          go_wp2_with fail
          rw [HA.out]
          exact ⟨hdf, hg, rfl⟩
      | ok x =>
        obtain ⟨f2, T3⟩ := x
        rw [hF2] at HA
        refine own15_region (Nat.le_of_ble_eq_true rfl) g (w.heap.size + 1 + 1) rfl rfl _ K3.out.2.2.1 (.slice o F.length cap) rfl (by omega) F w.heap.size OWN3.out (by have := HFL.out; omega) (by omega) hgl.2 f2 (fun w' => w.grownBy w' (some g) ∧ Rd W0 w' g E T3) ?_ ?_
        · refine (CF.out w4.drew T2 (K3.out.1.below ((Below.refl _ _).drew))).mono ?_
          rw [hF2]
          rintro e w' ⟨hg, ⟨v, rfl, rfl⟩, R⟩
          exact ⟨rfl, hg, grown_trans K3.out.2.1 (grown_trans (gb_drew w4 g) hg), R⟩
        · rintro a' w5 w6 v' ⟨y0, y1, y2, y3, y4, y5, y6, rfl⟩ ⟨G5, R5⟩ hg5 hgr6 hown6 hp6
          simp only [Act.put, List.setIfInBounds_toArray, List.set_cons_succ, List.set_cons_zero]
          obtain ⟨o6, cap6, rfl⟩ := gown_slice hown6
          have z5 := hg5.size
          have z6 := hgr6.size
          have own5 := own_by hg5 hgl.2 OWN3.out
          have hub : ∀ k, ((.slice o F.length cap) : Value).ownBlock = some k → w.heap.size ≤ k := fun k hk => (OWN3.out.lt k hk).1
          have r16 : w6.heap[w.heap.size + 1]? = some (.cells (claV ⟨[], 0, [], false, false⟩ (.slice none 0 0)) 76 (0, 0)) := by
            refine (hgr6.block _ (by simp; omega) ?_).trans (heap_past _ _ _ _ ((hg5.block _ (by omega) (by simp; omega)).trans K3.out.2.2.2))
            intro hq
            have hx := hq.symm
            obtain ⟨_, ⟨hv, _⟩ | ⟨g', cap', cur', hv, _, h2, _⟩⟩ := OWN3.out
            · rw [hv] at hx; simp [Value.ownBlock] at hx
            · rw [hv] at hx
              simp only [Value.ownBlock, Option.some.injEq] at hx
              rw [hx, K3.out.2.2.2] at h2
              simp at h2
          have G6 : w.grownBy w6 (some g) := gb_own (gb_alloc G5 _) hgr6 hub
          have R6 : Rd W0 w6 g E T3 := rd_own (R5.alloc _) hgr6 fun k hk => Nat.lt_of_lt_of_le hgl.2 (hub k hk)
          have rP7 : Hid ((w6.setCell ⟨(w.heap.size + 1 + 1), 2, none⟩ (.slice o6 (F ++ [f2]).length cap6)).heap[(w.heap.size + 1 + 1)]? = some (.cells (claV ⟨t.text, (t.pos : Int), F ++ [f2], true, false⟩ (.slice o6 (F ++ [f2]).length cap6)) 76 (0, 0))) := tc_row hp6 _
          have r17 : Hid ((w6.setCell ⟨(w.heap.size + 1 + 1), 2, none⟩ (.slice o6 (F ++ [f2]).length cap6)).heap[w.heap.size + 1]? = some (.cells (claV ⟨[], 0, [], false, false⟩ (.slice none 0 0)) 76 (0, 0))) := (tc_far (by omega) _).trans r16
          have OWN7 : Hid ((w6.setCell ⟨(w.heap.size + 1 + 1), 2, none⟩ (.slice o6 (F ++ [f2]).length cap6)).ownsRow w.heap.size 52 2 (.slice o6 (F ++ [f2]).length cap6) (F ++ [f2]).length (gcells figV (F ++ [f2]))) := own_set hown6 hp6 (by decide) _
          have G7 : Hid (w.grownBy (w6.setCell ⟨(w.heap.size + 1 + 1), 2, none⟩ (.slice o6 (F ++ [f2]).length cap6)) (some g)) := gb_setCell G6 (.inr (by omega)) _ _
          have R7 : Hid (Rd W0 (w6.setCell ⟨(w.heap.size + 1 + 1), 2, none⟩ (.slice o6 (F ++ [f2]).length cap6)) g E T3) := rd_setCell R6 (by omega) (by omega) _ _
          clear hown6 hp6 r16 hgr6 own5 G6 R6 G5 R5 hg5
          go_wp2_with (first
            | (refine wl_loadE (E := ClaE) ClaOk rfl _ rfl (w.heap.size + 1 + 1) 0 rfl _ _ _ (claV ⟨t.text, (t.pos : Int), F ++ [f2], true, false⟩ (.slice o6 (F ++ [f2]).length cap6)) rfl rP7.out (own_cells _ _) ?_)
            | (refine wl_storeE (E := ClaE) ClaOk rfl _ _ rfl (w.heap.size + 1) (claV ⟨t.text, (t.pos : Int), F ++ [f2], true, false⟩ (.slice o6 (F ++ [f2]).length cap6)) (cla_fits _ _ ⟨_, _, _, rfl⟩) rfl rfl _ r17.out rfl _ rfl ?_))
          refine retE (E := ClaE) ClaOk rfl rfl (w.heap.size + 1) rfl (claV ⟨t.text, (t.pos : Int), F ++ [f2], true, false⟩ (.slice o6 (F ++ [f2]).length cap6)) rfl (setRow_heap _ _ _ _ _ _ r17.out) ?_
          rw [HA.out]
          exact ⟨gb_setRow G7.out (.inr (by omega)) _, ⟨_, rfl, _, rfl, own_setRow OWN7.out r17.out (by decide) _⟩, rd_setRow R7.out (by omega) (by omega) _⟩
    · obtain ⟨hO, hf4⟩ := rdO_no hk
      rw [hf4]
      rw [hO] at HA
      clear hk hO hf4 c2 f2
      rintro e w2 ⟨hg2, ⟨v, rfl, rfl⟩, R2⟩
      have z2 : w1.heap.size ≤ w2.heap.size := by have := hg2.size; rw [tc_size] at this; simpa using this
      have rP2 : w2.heap[(w.heap.size + 1 + 1)]? = some (.cells (claV ⟨t.text, (t.pos : Int), [], false, false⟩ (.slice o F.length cap)) 76 (0, 0)) := (hg2.block _ (by rw [tc_size]; omega) (by simp; omega)).trans KP.out.2.2.1
      have r12 : w2.heap[w.heap.size + 1]? = some (.cells (claV ⟨[], 0, [], false, false⟩ (.slice none 0 0)) 76 (0, 0)) := (hg2.block _ (by rw [tc_size]; omega) (by simp; omega)).trans KP.out.2.2.2
      have c3 : w2.cell? ⟨(w.heap.size + 1 + 1), 3, none⟩ = some (.bool false) := by rw [cell_of_row _ _ _ _ _ _ rP2]; rfl
      have f3 : w2.frozen? ⟨(w.heap.size + 1 + 1), 3, none⟩ = false := tc_frozen rP2 rfl
      have rP3 : (w2.setCell ⟨(w.heap.size + 1 + 1), 3, none⟩ (.bool false)).heap[(w.heap.size + 1 + 1)]? = some (.cells (claV ⟨t.text, (t.pos : Int), F, false, false⟩ (.slice o F.length cap)) 76 (0, 0)) := tc_row rP2 _
      have r13 : (w2.setCell ⟨(w.heap.size + 1 + 1), 3, none⟩ (.bool false)).heap[w.heap.size + 1]? = some (.cells (claV ⟨[], 0, [], false, false⟩ (.slice none 0 0)) 76 (0, 0)) := (tc_far (by omega) _).trans r12
      have R3 : Rd W0 (w2.setCell ⟨(w.heap.size + 1 + 1), 3, none⟩ (.bool false)) g E T1 := rd_setCell R2 (by omega) (by omega) _ _
      have G3 : w.grownBy (w2.setCell ⟨(w.heap.size + 1 + 1), 3, none⟩ (.bool false)) (some g) := gb_setCell (grown_trans KP.out.2.1 hg2) (.inr (by omega)) _ _
      have OWN3 : Hid ((w2.setCell ⟨(w.heap.size + 1 + 1), 3, none⟩ (.bool false)).ownsRow w.heap.size 52 2 (.slice o F.length cap) F.length (gcells figV F)) := own_set (own_by hg2 hgl.2 OWN2.out) rP2 (by decide) _
      have d3 : (w2.setCell ⟨(w.heap.size + 1 + 1), 3, none⟩ (.bool false)).cell? ⟨(w.heap.size + 1 + 1), 3, none⟩ = some (.bool false) := by rw [cell_of_row _ _ _ _ _ _ rP3]; rfl
      have d4 : (w2.setCell ⟨(w.heap.size + 1 + 1), 3, none⟩ (.bool false)).cell? ⟨(w.heap.size + 1 + 1), 4, none⟩ = some (.bool false) := by rw [cell_of_row _ _ _ _ _ _ rP3]; rfl
      have K3 : Hid (_ ∧ _ ∧ _ ∧ _) := ⟨R3, G3, rP3, r13⟩
      have HA3 : Hid (A = .ok ((⟨t.text, (t.pos : Int), F, false, false⟩ : Cla), T1)) := by show _ = _; rw [HA.out]; simp [Except.map]
      clear hg2 R2 rP2 r12 rP3 r13 R3 G3 OWN2 KP
      go_wp2_with (first
        | (refine wl_loadE (E := ClaE) ClaOk rfl _ rfl (w.heap.size + 1 + 1) 0 rfl _ _ _ (claV ⟨t.text, (t.pos : Int), F, false, false⟩ (.slice o F.length cap)) rfl K3.out.2.2.1 (own_cells _ _) ?_)
        | (refine wl_storeE (E := ClaE) ClaOk rfl _ _ rfl (w.heap.size + 1) (claV ⟨t.text, (t.pos : Int), F, false, false⟩ (.slice o F.length cap)) (cla_fits _ _ ⟨_, _, _, rfl⟩) rfl rfl _ K3.out.2.2.2 rfl _ rfl ?_))
      refine retE (E := ClaE) ClaOk rfl rfl (w.heap.size + 1) rfl (claV ⟨t.text, (t.pos : Int), F, false, false⟩ (.slice o F.length cap)) rfl (setRow_heap _ _ _ _ _ _ K3.out.2.2.2) ?_
      rw [HA3.out]
      exact ⟨gb_setRow K3.out.2.1 (.inr (by omega)) _, ⟨_, rfl, _, rfl, own_setRow OWN3.out K3.out.2.2.2 (by decide) _⟩, rd_setRow K3.out.1 (by omega) (by omega) _⟩

set_option maxHeartbeats 4000000 in
set_option maxRecDepth 10000 in
theorem clause_sport (W0 w : World) (g E : Nat) (t : Tok) (ht : t.text = wSport) (T : List Tok) (h : Rd W0 w g E T) :
    Calls Tryd.prog 73 #[.pointer (some ⟨g, 0, none⟩), .agg (encT t)] w fun e w' => Took W0 w g E (ClaR w.heap.size) (portC E t T) e w' := by
  have CF : Hid (∀ W T, Rd W0 W g E T → Calls Tryd.prog 59 #[.pointer (some ⟨g, 0, none⟩)] W fun e w' => Took W0 W g E (fun _ f v => v = .agg (figV f)) (takeF E T) e w') := fun W T h => figure_any W0 W g E T h
  have CA : Hid (∀ W T, Rd W0 W g E T → Calls Tryd.prog 81 #[.pointer (some ⟨g, 0, none⟩)] W fun e w' => Took W0 W g E (FigsOwn W.heap.size) (addrT E T) e w') := fun W T h => address_any W0 W g E T h
  have C4 : Hid (∀ W T, Rd W0 W g E T → Calls Tryd.prog 82 #[.pointer (some ⟨g, 0, none⟩), .int .i64 4] W fun e w' => Took W0 W g E (fun _ b v => v = .bool b) (follT E 4 T) e w') := fun W T h => follows_any W0 W g E 4 (by decide) T h
  have C5 : Hid (∀ W T, Rd W0 W g E T → Calls Tryd.prog 82 #[.pointer (some ⟨g, 0, none⟩), .int .i64 5] W fun e w' => Took W0 W g E (fun _ b v => v = .bool b) (follT E 5 T) e w') := fun W T h => follows_any W0 W g E 5 (by decide) T h
  have hgl := h.size
  have e0 : (t.text == [115, 114, 99]) = false := by rw [ht]; rfl
  have e1 : (t.text == [100, 115, 116]) = false := by rw [ht]; rfl
  have e2 : (t.text == [115, 112, 111, 114, 116]) = true := by rw [ht]; rfl
  have H : Hid (Rd W0 w g E T) := h
  obtain ⟨A, hA⟩ : ∃ A, A = portC E t T := ⟨_, rfl⟩
  rw [← hA]
  unfold portC at hA
  have q1 := fun x => tok_cells (heap_past _ x _ _ (heap_new w (.cells (encT t) 87) _ rfl))
  have q2 := fun x y => tok_cells (heap_past _ y _ _ (heap_past _ x _ _ (heap_new w (.cells (encT t) 87) _ rfl)))
  have t1 := fun x => (q1 x).2.1
  have t2 := fun x => (q1 x).2.2.1
  have t5 := fun x y => (q2 x y).2.1
  have t6 := fun x y => (q2 x y).2.2.1
  clear q1 q2
  clear h ht
  go_enter Tryd.func73, Tryd.ntmps73
  go_wp2_with (first
    | (refine wl_storeE (E := ClaE) ClaOk rfl _ _ rfl (w.heap.size + 2) (claV ⟨t.text, (t.pos : Int), [], false, false⟩ (.slice none 0 0)) (cla_fits _ _ ⟨_, _, _, rfl⟩) rfl rfl _ (heap_new _ _ _ (by simp)) rfl _ (setRow_new _ _ _ _ _ (by simp)) ?_))
  refine (CF.out _ T (((H.out.alloc _).alloc _).alloc _)).mono ?_
  cases hF : takeF E T with
  | error x =>
    obtain ⟨c, q⟩ := x
    have HA2 : Hid (A = .error (c, q)) := by show _ = _; rw [hA, hF]; rfl
    clear hA hF
    rintro e w1 ⟨hg1, rfl⟩
    go_wp2_with fail
    rw [HA2.out]
    exact ⟨rfl, grown_trans (gb_alloc (gb_alloc (gb_alloc (gb_refl w g) _) _) _) hg1, rfl⟩
  | ok x =>
    obtain ⟨f, T1⟩ := x
    have HA : Hid (A = (takeO E 5 T1).map fun z => ((⟨t.text, (t.pos : Int), f :: z.1.toList, false, z.1.isSome⟩ : Cla), z.2)) := by show _ = _; rw [hA, hF]; rfl
    clear hA
    rintro e w1 ⟨hg1, ⟨v, rfl, rfl⟩, R1⟩
    have G1 : w.grownBy w1 (some g) := grown_trans (gb_alloc (gb_alloc (gb_alloc (gb_refl w g) _) _) _) hg1
    have z1 : w.heap.size + 3 ≤ w1.heap.size := by have := hg1.size; simp at this; omega
    have r1 : w1.heap[w.heap.size + 1]? = some (.cells (claV ⟨[], 0, [], false, false⟩ (.slice none 0 0)) 76 (0, 0)) := (hg1.block _ (by simp) (by simp; omega)).trans (heap_past _ _ _ _ (heap_new _ _ _ (by simp)))
    have rP : w1.heap[(w.heap.size + 1 + 1)]? = some (.cells (claV ⟨t.text, (t.pos : Int), [], false, false⟩ (.slice none 0 0)) 76 (0, 0)) := (hg1.block _ (by simp) (by simp; omega)).trans (heap_new _ _ _ (by simp))
    have OWN1 : Hid ((w1.alloc (.cells (figV f) 52)).ownsRow w.heap.size 52 2 (.slice (some ⟨w1.heap.size, 0, none⟩) 1 1) [f].length (gcells figV [f])) := ⟨rfl, Or.inr ⟨w1.heap.size, 1, figV f, rfl, by omega, heap_new _ _ _ rfl, Nat.le_refl 1, by decide, rfl, rfl⟩⟩
    replace r1 := heap_past _ (.cells (figV f) 52) _ _ r1
    have rP0 := rP
    replace rP := heap_past _ (.cells (figV f) 52) _ _ rP
    replace R1 := R1.alloc (.cells (figV f) 52)
    replace G1 := gb_alloc G1 (.cells (figV f) 52)
    have z1' : (w1.alloc (.cells (figV f) 52)).heap.size = w1.heap.size + 1 := by simp
    have c2 : ∀ x, (w1.alloc x).cell? ⟨(w.heap.size + 1 + 1), 2, none⟩ = some (.slice none 0 0) := fun x => by rw [cell_of_row _ _ _ _ _ _ (heap_past _ x _ _ rP0)]; rfl
    have f2 : ∀ x, (w1.alloc x).frozen? ⟨(w.heap.size + 1 + 1), 2, none⟩ = false := fun x => tc_frozen (heap_past _ x _ _ rP0) rfl
    have R1' : Rd W0 ((w1.alloc (.cells (figV f) 52)).setCell ⟨(w.heap.size + 1 + 1), 2, none⟩ (.slice (some ⟨w1.heap.size, 0, none⟩) 1 1)) g E T1 := rd_setCell R1 (by omega) (by omega) _ _
    have G1' : w.grownBy ((w1.alloc (.cells (figV f) 52)).setCell ⟨(w.heap.size + 1 + 1), 2, none⟩ (.slice (some ⟨w1.heap.size, 0, none⟩) 1 1)) (some g) := gb_setCell G1 (.inr (by omega)) _ _
    have rP' : ((w1.alloc (.cells (figV f) 52)).setCell ⟨(w.heap.size + 1 + 1), 2, none⟩ (.slice (some ⟨w1.heap.size, 0, none⟩) 1 1)).heap[(w.heap.size + 1 + 1)]? = some (.cells (claV ⟨t.text, (t.pos : Int), [], false, false⟩ (.slice (some ⟨w1.heap.size, 0, none⟩) 1 1)) 76 (0, 0)) := tc_row rP _
    have r1' : ((w1.alloc (.cells (figV f) 52)).setCell ⟨(w.heap.size + 1 + 1), 2, none⟩ (.slice (some ⟨w1.heap.size, 0, none⟩) 1 1)).heap[w.heap.size + 1]? = some (.cells (claV ⟨[], 0, [], false, false⟩ (.slice none 0 0)) 76 (0, 0)) := (tc_far (by omega) _).trans r1
    have OWN2 : Hid (((w1.alloc (.cells (figV f) 52)).setCell ⟨(w.heap.size + 1 + 1), 2, none⟩ (.slice (some ⟨w1.heap.size, 0, none⟩) 1 1)).ownsRow w.heap.size 52 2 (.slice (some ⟨w1.heap.size, 0, none⟩) 1 1) [f].length (gcells figV [f])) := own_set OWN1.out rP (by decide) _
    have KP : Hid (_ ∧ _ ∧ _ ∧ _) := ⟨R1', G1', rP', r1'⟩
    clear R1 G1 rP r1 R1' G1' rP' r1' OWN1 hg1 hF z1'
    clear rP0
    go_wp2_with (first
      | (refine wl_buildE (E := FigE) FigOk rfl _ rfl (figV f) rfl rfl ?_))
    refine (C5.out _ T1 KP.out.1).mono ?_
    by_cases hk : (hd E T1).kind = 5
    · obtain ⟨T2, hO, hf4⟩ := rdO_yes (by decide) hk
      rw [hf4]
      rw [hO] at HA
      clear hk hO hf4 c2 f2
      rintro e w2 ⟨hg2, ⟨v, rfl, rfl⟩, R2⟩
      have z2 : w1.heap.size + 1 ≤ w2.heap.size := by have := hg2.size; rw [tc_size] at this; simpa using this
      have rP2 : w2.heap[(w.heap.size + 1 + 1)]? = some (.cells (claV ⟨t.text, (t.pos : Int), [], false, false⟩ (.slice (some ⟨w1.heap.size, 0, none⟩) 1 1)) 76 (0, 0)) := (hg2.block _ (by rw [tc_size]; simp; omega) (by simp; omega)).trans KP.out.2.2.1
      have r12 : w2.heap[w.heap.size + 1]? = some (.cells (claV ⟨[], 0, [], false, false⟩ (.slice none 0 0)) 76 (0, 0)) := (hg2.block _ (by rw [tc_size]; simp; omega) (by simp; omega)).trans KP.out.2.2.2
      have c3 : w2.cell? ⟨(w.heap.size + 1 + 1), 4, none⟩ = some (.bool false) := by rw [cell_of_row _ _ _ _ _ _ rP2]; rfl
      have f3 : w2.frozen? ⟨(w.heap.size + 1 + 1), 4, none⟩ = false := tc_frozen rP2 rfl
      have rP3 : (w2.setCell ⟨(w.heap.size + 1 + 1), 4, none⟩ (.bool true)).heap[(w.heap.size + 1 + 1)]? = some (.cells (claV ⟨t.text, (t.pos : Int), [], false, true⟩ (.slice (some ⟨w1.heap.size, 0, none⟩) 1 1)) 76 (0, 0)) := tc_row rP2 _
      have r13 : (w2.setCell ⟨(w.heap.size + 1 + 1), 4, none⟩ (.bool true)).heap[w.heap.size + 1]? = some (.cells (claV ⟨[], 0, [], false, false⟩ (.slice none 0 0)) 76 (0, 0)) := (tc_far (by omega) _).trans r12
      have R3 : Rd W0 (w2.setCell ⟨(w.heap.size + 1 + 1), 4, none⟩ (.bool true)) g E T2 := rd_setCell R2 (by omega) (by omega) _ _
      have G3 : w.grownBy (w2.setCell ⟨(w.heap.size + 1 + 1), 4, none⟩ (.bool true)) (some g) := gb_setCell (grown_trans KP.out.2.1 hg2) (.inr (by omega)) _ _
      have OWN3 : Hid ((w2.setCell ⟨(w.heap.size + 1 + 1), 4, none⟩ (.bool true)).ownsRow w.heap.size 52 2 (.slice (some ⟨w1.heap.size, 0, none⟩) 1 1) [f].length (gcells figV [f])) := own_set (own_by hg2 hgl.2 OWN2.out) rP2 (by decide) _
      have d3 : (w2.setCell ⟨(w.heap.size + 1 + 1), 4, none⟩ (.bool true)).cell? ⟨(w.heap.size + 1 + 1), 3, none⟩ = some (.bool false) := by rw [cell_of_row _ _ _ _ _ _ rP3]; rfl
      have d4 : (w2.setCell ⟨(w.heap.size + 1 + 1), 4, none⟩ (.bool true)).cell? ⟨(w.heap.size + 1 + 1), 4, none⟩ = some (.bool true) := by rw [cell_of_row _ _ _ _ _ _ rP3]; rfl
      have K3 : Hid (_ ∧ _ ∧ _ ∧ _) := ⟨R3, G3, rP3, r13⟩
      clear hg2 R2 rP2 r12 rP3 r13 R3 G3 OWN2 KP
      go_wp2_with fail
      obtain ⟨w4, hw4⟩ : ∃ w4, w4 = w2.setCell ⟨(w.heap.size + 1 + 1), 4, none⟩ (.bool true) := ⟨_, rfl⟩
      rw [← hw4] at K3 OWN3 ⊢
      have z4 : w4.heap.size = w2.heap.size := by rw [hw4, tc_size]
      clear hw4 d3 d4 c3 f3
      cases hF2 : takeF E T2 with
      | error x =>
        obtain ⟨c, q⟩ := x
        rw [hF2] at HA
        refine own15_panics (Nat.le_of_ble_eq_true rfl) g (w.heap.size + 1 + 1) rfl rfl _ K3.out.2.2.1 (.slice (some ⟨w1.heap.size, 0, none⟩) 1 1) rfl [{ v := faultV c q, recovered := false }] (fun w' => w.grownBy w' (some g)) ?_ ?_
        · refine (CF.out w4.drew T2 (K3.out.1.below ((Below.refl _ _).drew))).mono ?_
          rw [hF2]
          rintro e w' ⟨hg, rfl⟩
          exact ⟨rfl, grown_trans K3.out.2.1 (grown_trans (gb_drew w4 g) hg)⟩
        · intro a' w' hdf hg
          go_wp2_with fail
          rw [HA.out]
          exact ⟨hdf, hg, rfl⟩
      | ok x =>
        obtain ⟨f2, T3⟩ := x
        rw [hF2] at HA
        refine own15_region (Nat.le_of_ble_eq_true rfl) g (w.heap.size + 1 + 1) rfl rfl _ K3.out.2.2.1 (.slice (some ⟨w1.heap.size, 0, none⟩) 1 1) rfl (by omega) [f] w.heap.size OWN3.out (by simp) (by omega) hgl.2 f2 (fun w' => w.grownBy w' (some g) ∧ Rd W0 w' g E T3) ?_ ?_
        · refine (CF.out w4.drew T2 (K3.out.1.below ((Below.refl _ _).drew))).mono ?_
          rw [hF2]
          rintro e w' ⟨hg, ⟨v, rfl, rfl⟩, R⟩
          exact ⟨rfl, hg, grown_trans K3.out.2.1 (grown_trans (gb_drew w4 g) hg), R⟩
        · rintro a' w5 w6 v' ⟨y0, y1, y2, y3, y4, y5, y6, rfl⟩ ⟨G5, R5⟩ hg5 hgr6 hown6 hp6
          simp only [Act.put, List.setIfInBounds_toArray, List.set_cons_succ, List.set_cons_zero]
          obtain ⟨o6, cap6, rfl⟩ := gown_slice hown6
          have z5 := hg5.size
          have z6 := hgr6.size
          have own5 := own_by hg5 hgl.2 OWN3.out
          have hub : ∀ k, ((.slice (some ⟨w1.heap.size, 0, none⟩) 1 1) : Value).ownBlock = some k → w.heap.size ≤ k := fun k hk => (OWN3.out.lt k hk).1
          have r16 : w6.heap[w.heap.size + 1]? = some (.cells (claV ⟨[], 0, [], false, false⟩ (.slice none 0 0)) 76 (0, 0)) := by
            refine (hgr6.block _ (by simp; omega) ?_).trans (heap_past _ _ _ _ ((hg5.block _ (by omega) (by simp; omega)).trans K3.out.2.2.2))
            intro hq
            have hx := hq.symm
            obtain ⟨_, ⟨hv, _⟩ | ⟨g', cap', cur', hv, _, h2, _⟩⟩ := OWN3.out
            · rw [hv] at hx; simp [Value.ownBlock] at hx
            · rw [hv] at hx
              simp only [Value.ownBlock, Option.some.injEq] at hx
              rw [hx, K3.out.2.2.2] at h2
              simp at h2
          have G6 : w.grownBy w6 (some g) := gb_own (gb_alloc G5 _) hgr6 hub
          have R6 : Rd W0 w6 g E T3 := rd_own (R5.alloc _) hgr6 fun k hk => Nat.lt_of_lt_of_le hgl.2 (hub k hk)
          have rP7 : Hid ((w6.setCell ⟨(w.heap.size + 1 + 1), 2, none⟩ (.slice o6 ([f] ++ [f2]).length cap6)).heap[(w.heap.size + 1 + 1)]? = some (.cells (claV ⟨t.text, (t.pos : Int), [f] ++ [f2], false, true⟩ (.slice o6 ([f] ++ [f2]).length cap6)) 76 (0, 0))) := tc_row hp6 _
          have r17 : Hid ((w6.setCell ⟨(w.heap.size + 1 + 1), 2, none⟩ (.slice o6 ([f] ++ [f2]).length cap6)).heap[w.heap.size + 1]? = some (.cells (claV ⟨[], 0, [], false, false⟩ (.slice none 0 0)) 76 (0, 0))) := (tc_far (by omega) _).trans r16
          have OWN7 : Hid ((w6.setCell ⟨(w.heap.size + 1 + 1), 2, none⟩ (.slice o6 ([f] ++ [f2]).length cap6)).ownsRow w.heap.size 52 2 (.slice o6 ([f] ++ [f2]).length cap6) ([f] ++ [f2]).length (gcells figV ([f] ++ [f2]))) := own_set hown6 hp6 (by decide) _
          have G7 : Hid (w.grownBy (w6.setCell ⟨(w.heap.size + 1 + 1), 2, none⟩ (.slice o6 ([f] ++ [f2]).length cap6)) (some g)) := gb_setCell G6 (.inr (by omega)) _ _
          have R7 : Hid (Rd W0 (w6.setCell ⟨(w.heap.size + 1 + 1), 2, none⟩ (.slice o6 ([f] ++ [f2]).length cap6)) g E T3) := rd_setCell R6 (by omega) (by omega) _ _
          clear hown6 hp6 r16 hgr6 own5 G6 R6 G5 R5 hg5
          go_wp2_with (first
            | (refine wl_loadE (E := ClaE) ClaOk rfl _ rfl (w.heap.size + 1 + 1) 0 rfl _ _ _ (claV ⟨t.text, (t.pos : Int), [f] ++ [f2], false, true⟩ (.slice o6 ([f] ++ [f2]).length cap6)) rfl rP7.out (own_cells _ _) ?_)
            | (refine wl_storeE (E := ClaE) ClaOk rfl _ _ rfl (w.heap.size + 1) (claV ⟨t.text, (t.pos : Int), [f] ++ [f2], false, true⟩ (.slice o6 ([f] ++ [f2]).length cap6)) (cla_fits _ _ ⟨_, _, _, rfl⟩) rfl rfl _ r17.out rfl _ rfl ?_))
          refine retE (E := ClaE) ClaOk rfl rfl (w.heap.size + 1) rfl (claV ⟨t.text, (t.pos : Int), [f] ++ [f2], false, true⟩ (.slice o6 ([f] ++ [f2]).length cap6)) rfl (setRow_heap _ _ _ _ _ _ r17.out) ?_
          rw [HA.out]
          exact ⟨gb_setRow G7.out (.inr (by omega)) _, ⟨_, rfl, _, rfl, own_setRow OWN7.out r17.out (by decide) _⟩, rd_setRow R7.out (by omega) (by omega) _⟩
    · obtain ⟨hO, hf4⟩ := rdO_no hk
      rw [hf4]
      rw [hO] at HA
      clear hk hO hf4 c2 f2
      rintro e w2 ⟨hg2, ⟨v, rfl, rfl⟩, R2⟩
      have z2 : w1.heap.size + 1 ≤ w2.heap.size := by have := hg2.size; rw [tc_size] at this; simpa using this
      have rP2 : w2.heap[(w.heap.size + 1 + 1)]? = some (.cells (claV ⟨t.text, (t.pos : Int), [], false, false⟩ (.slice (some ⟨w1.heap.size, 0, none⟩) 1 1)) 76 (0, 0)) := (hg2.block _ (by rw [tc_size]; simp; omega) (by simp; omega)).trans KP.out.2.2.1
      have r12 : w2.heap[w.heap.size + 1]? = some (.cells (claV ⟨[], 0, [], false, false⟩ (.slice none 0 0)) 76 (0, 0)) := (hg2.block _ (by rw [tc_size]; simp; omega) (by simp; omega)).trans KP.out.2.2.2
      have c3 : w2.cell? ⟨(w.heap.size + 1 + 1), 4, none⟩ = some (.bool false) := by rw [cell_of_row _ _ _ _ _ _ rP2]; rfl
      have f3 : w2.frozen? ⟨(w.heap.size + 1 + 1), 4, none⟩ = false := tc_frozen rP2 rfl
      have rP3 : (w2.setCell ⟨(w.heap.size + 1 + 1), 4, none⟩ (.bool false)).heap[(w.heap.size + 1 + 1)]? = some (.cells (claV ⟨t.text, (t.pos : Int), [f], false, false⟩ (.slice (some ⟨w1.heap.size, 0, none⟩) 1 1)) 76 (0, 0)) := tc_row rP2 _
      have r13 : (w2.setCell ⟨(w.heap.size + 1 + 1), 4, none⟩ (.bool false)).heap[w.heap.size + 1]? = some (.cells (claV ⟨[], 0, [], false, false⟩ (.slice none 0 0)) 76 (0, 0)) := (tc_far (by omega) _).trans r12
      have R3 : Rd W0 (w2.setCell ⟨(w.heap.size + 1 + 1), 4, none⟩ (.bool false)) g E T1 := rd_setCell R2 (by omega) (by omega) _ _
      have G3 : w.grownBy (w2.setCell ⟨(w.heap.size + 1 + 1), 4, none⟩ (.bool false)) (some g) := gb_setCell (grown_trans KP.out.2.1 hg2) (.inr (by omega)) _ _
      have OWN3 : Hid ((w2.setCell ⟨(w.heap.size + 1 + 1), 4, none⟩ (.bool false)).ownsRow w.heap.size 52 2 (.slice (some ⟨w1.heap.size, 0, none⟩) 1 1) [f].length (gcells figV [f])) := own_set (own_by hg2 hgl.2 OWN2.out) rP2 (by decide) _
      have d3 : (w2.setCell ⟨(w.heap.size + 1 + 1), 4, none⟩ (.bool false)).cell? ⟨(w.heap.size + 1 + 1), 3, none⟩ = some (.bool false) := by rw [cell_of_row _ _ _ _ _ _ rP3]; rfl
      have d4 : (w2.setCell ⟨(w.heap.size + 1 + 1), 4, none⟩ (.bool false)).cell? ⟨(w.heap.size + 1 + 1), 4, none⟩ = some (.bool false) := by rw [cell_of_row _ _ _ _ _ _ rP3]; rfl
      have K3 : Hid (_ ∧ _ ∧ _ ∧ _) := ⟨R3, G3, rP3, r13⟩
      have HA3 : Hid (A = .ok ((⟨t.text, (t.pos : Int), [f], false, false⟩ : Cla), T1)) := by show _ = _; rw [HA.out]; simp [Except.map]
      clear hg2 R2 rP2 r12 rP3 r13 R3 G3 OWN2 KP
      go_wp2_with (first
        | (refine wl_loadE (E := ClaE) ClaOk rfl _ rfl (w.heap.size + 1 + 1) 0 rfl _ _ _ (claV ⟨t.text, (t.pos : Int), [f], false, false⟩ (.slice (some ⟨w1.heap.size, 0, none⟩) 1 1)) rfl K3.out.2.2.1 (own_cells _ _) ?_)
        | (refine wl_storeE (E := ClaE) ClaOk rfl _ _ rfl (w.heap.size + 1) (claV ⟨t.text, (t.pos : Int), [f], false, false⟩ (.slice (some ⟨w1.heap.size, 0, none⟩) 1 1)) (cla_fits _ _ ⟨_, _, _, rfl⟩) rfl rfl _ K3.out.2.2.2 rfl _ rfl ?_))
      refine retE (E := ClaE) ClaOk rfl rfl (w.heap.size + 1) rfl (claV ⟨t.text, (t.pos : Int), [f], false, false⟩ (.slice (some ⟨w1.heap.size, 0, none⟩) 1 1)) rfl (setRow_heap _ _ _ _ _ _ K3.out.2.2.2) ?_
      rw [HA3.out]
      exact ⟨gb_setRow K3.out.2.1 (.inr (by omega)) _, ⟨_, rfl, _, rfl, own_setRow OWN3.out K3.out.2.2.2 (by decide) _⟩, rd_setRow K3.out.1 (by omega) (by omega) _⟩

set_option maxHeartbeats 4000000 in
set_option maxRecDepth 10000 in
theorem clause_dport (W0 w : World) (g E : Nat) (t : Tok) (ht : t.text = wDport) (T : List Tok) (h : Rd W0 w g E T) :
    Calls Tryd.prog 73 #[.pointer (some ⟨g, 0, none⟩), .agg (encT t)] w fun e w' => Took W0 w g E (ClaR w.heap.size) (portC E t T) e w' := by
  have CF : Hid (∀ W T, Rd W0 W g E T → Calls Tryd.prog 59 #[.pointer (some ⟨g, 0, none⟩)] W fun e w' => Took W0 W g E (fun _ f v => v = .agg (figV f)) (takeF E T) e w') := fun W T h => figure_any W0 W g E T h
  have CA : Hid (∀ W T, Rd W0 W g E T → Calls Tryd.prog 81 #[.pointer (some ⟨g, 0, none⟩)] W fun e w' => Took W0 W g E (FigsOwn W.heap.size) (addrT E T) e w') := fun W T h => address_any W0 W g E T h
  have C4 : Hid (∀ W T, Rd W0 W g E T → Calls Tryd.prog 82 #[.pointer (some ⟨g, 0, none⟩), .int .i64 4] W fun e w' => Took W0 W g E (fun _ b v => v = .bool b) (follT E 4 T) e w') := fun W T h => follows_any W0 W g E 4 (by decide) T h
  have C5 : Hid (∀ W T, Rd W0 W g E T → Calls Tryd.prog 82 #[.pointer (some ⟨g, 0, none⟩), .int .i64 5] W fun e w' => Took W0 W g E (fun _ b v => v = .bool b) (follT E 5 T) e w') := fun W T h => follows_any W0 W g E 5 (by decide) T h
  have hgl := h.size
  have e0 : (t.text == [115, 114, 99]) = false := by rw [ht]; rfl
  have e1 : (t.text == [100, 115, 116]) = false := by rw [ht]; rfl
  have e2 : (t.text == [115, 112, 111, 114, 116]) = false := by rw [ht]; rfl
  have e3 : (t.text == [100, 112, 111, 114, 116]) = true := by rw [ht]; rfl
  have H : Hid (Rd W0 w g E T) := h
  obtain ⟨A, hA⟩ : ∃ A, A = portC E t T := ⟨_, rfl⟩
  rw [← hA]
  unfold portC at hA
  have q1 := fun x => tok_cells (heap_past _ x _ _ (heap_new w (.cells (encT t) 87) _ rfl))
  have q2 := fun x y => tok_cells (heap_past _ y _ _ (heap_past _ x _ _ (heap_new w (.cells (encT t) 87) _ rfl)))
  have t1 := fun x => (q1 x).2.1
  have t2 := fun x => (q1 x).2.2.1
  have t5 := fun x y => (q2 x y).2.1
  have t6 := fun x y => (q2 x y).2.2.1
  clear q1 q2
  clear h ht
  go_enter Tryd.func73, Tryd.ntmps73
  go_wp2_with (first
    | (refine wl_storeE (E := ClaE) ClaOk rfl _ _ rfl (w.heap.size + 2) (claV ⟨t.text, (t.pos : Int), [], false, false⟩ (.slice none 0 0)) (cla_fits _ _ ⟨_, _, _, rfl⟩) rfl rfl _ (heap_new _ _ _ (by simp)) rfl _ (setRow_new _ _ _ _ _ (by simp)) ?_))
  refine (CF.out _ T (((H.out.alloc _).alloc _).alloc _)).mono ?_
  cases hF : takeF E T with
  | error x =>
    obtain ⟨c, q⟩ := x
    have HA2 : Hid (A = .error (c, q)) := by show _ = _; rw [hA, hF]; rfl
    clear hA hF
    rintro e w1 ⟨hg1, rfl⟩
    go_wp2_with fail
    rw [HA2.out]
    exact ⟨rfl, grown_trans (gb_alloc (gb_alloc (gb_alloc (gb_refl w g) _) _) _) hg1, rfl⟩
  | ok x =>
    obtain ⟨f, T1⟩ := x
    have HA : Hid (A = (takeO E 5 T1).map fun z => ((⟨t.text, (t.pos : Int), f :: z.1.toList, false, z.1.isSome⟩ : Cla), z.2)) := by show _ = _; rw [hA, hF]; rfl
    clear hA
    rintro e w1 ⟨hg1, ⟨v, rfl, rfl⟩, R1⟩
    have G1 : w.grownBy w1 (some g) := grown_trans (gb_alloc (gb_alloc (gb_alloc (gb_refl w g) _) _) _) hg1
    have z1 : w.heap.size + 3 ≤ w1.heap.size := by have := hg1.size; simp at this; omega
    have r1 : w1.heap[w.heap.size + 1]? = some (.cells (claV ⟨[], 0, [], false, false⟩ (.slice none 0 0)) 76 (0, 0)) := (hg1.block _ (by simp) (by simp; omega)).trans (heap_past _ _ _ _ (heap_new _ _ _ (by simp)))
    have rP : w1.heap[(w.heap.size + 1 + 1)]? = some (.cells (claV ⟨t.text, (t.pos : Int), [], false, false⟩ (.slice none 0 0)) 76 (0, 0)) := (hg1.block _ (by simp) (by simp; omega)).trans (heap_new _ _ _ (by simp))
    have OWN1 : Hid ((w1.alloc (.cells (figV f) 52)).ownsRow w.heap.size 52 2 (.slice (some ⟨w1.heap.size, 0, none⟩) 1 1) [f].length (gcells figV [f])) := ⟨rfl, Or.inr ⟨w1.heap.size, 1, figV f, rfl, by omega, heap_new _ _ _ rfl, Nat.le_refl 1, by decide, rfl, rfl⟩⟩
    replace r1 := heap_past _ (.cells (figV f) 52) _ _ r1
    have rP0 := rP
    replace rP := heap_past _ (.cells (figV f) 52) _ _ rP
    replace R1 := R1.alloc (.cells (figV f) 52)
    replace G1 := gb_alloc G1 (.cells (figV f) 52)
    have z1' : (w1.alloc (.cells (figV f) 52)).heap.size = w1.heap.size + 1 := by simp
    have c2 : ∀ x, (w1.alloc x).cell? ⟨(w.heap.size + 1 + 1), 2, none⟩ = some (.slice none 0 0) := fun x => by rw [cell_of_row _ _ _ _ _ _ (heap_past _ x _ _ rP0)]; rfl
    have f2 : ∀ x, (w1.alloc x).frozen? ⟨(w.heap.size + 1 + 1), 2, none⟩ = false := fun x => tc_frozen (heap_past _ x _ _ rP0) rfl
    have R1' : Rd W0 ((w1.alloc (.cells (figV f) 52)).setCell ⟨(w.heap.size + 1 + 1), 2, none⟩ (.slice (some ⟨w1.heap.size, 0, none⟩) 1 1)) g E T1 := rd_setCell R1 (by omega) (by omega) _ _
    have G1' : w.grownBy ((w1.alloc (.cells (figV f) 52)).setCell ⟨(w.heap.size + 1 + 1), 2, none⟩ (.slice (some ⟨w1.heap.size, 0, none⟩) 1 1)) (some g) := gb_setCell G1 (.inr (by omega)) _ _
    have rP' : ((w1.alloc (.cells (figV f) 52)).setCell ⟨(w.heap.size + 1 + 1), 2, none⟩ (.slice (some ⟨w1.heap.size, 0, none⟩) 1 1)).heap[(w.heap.size + 1 + 1)]? = some (.cells (claV ⟨t.text, (t.pos : Int), [], false, false⟩ (.slice (some ⟨w1.heap.size, 0, none⟩) 1 1)) 76 (0, 0)) := tc_row rP _
    have r1' : ((w1.alloc (.cells (figV f) 52)).setCell ⟨(w.heap.size + 1 + 1), 2, none⟩ (.slice (some ⟨w1.heap.size, 0, none⟩) 1 1)).heap[w.heap.size + 1]? = some (.cells (claV ⟨[], 0, [], false, false⟩ (.slice none 0 0)) 76 (0, 0)) := (tc_far (by omega) _).trans r1
    have OWN2 : Hid (((w1.alloc (.cells (figV f) 52)).setCell ⟨(w.heap.size + 1 + 1), 2, none⟩ (.slice (some ⟨w1.heap.size, 0, none⟩) 1 1)).ownsRow w.heap.size 52 2 (.slice (some ⟨w1.heap.size, 0, none⟩) 1 1) [f].length (gcells figV [f])) := own_set OWN1.out rP (by decide) _
    have KP : Hid (_ ∧ _ ∧ _ ∧ _) := ⟨R1', G1', rP', r1'⟩
    clear R1 G1 rP r1 R1' G1' rP' r1' OWN1 hg1 hF z1'
    clear rP0
    go_wp2_with (first
      | (refine wl_buildE (E := FigE) FigOk rfl _ rfl (figV f) rfl rfl ?_))
    refine (C5.out _ T1 KP.out.1).mono ?_
    by_cases hk : (hd E T1).kind = 5
    · obtain ⟨T2, hO, hf4⟩ := rdO_yes (by decide) hk
      rw [hf4]
      rw [hO] at HA
      clear hk hO hf4 c2 f2
      rintro e w2 ⟨hg2, ⟨v, rfl, rfl⟩, R2⟩
      have z2 : w1.heap.size + 1 ≤ w2.heap.size := by have := hg2.size; rw [tc_size] at this; simpa using this
      have rP2 : w2.heap[(w.heap.size + 1 + 1)]? = some (.cells (claV ⟨t.text, (t.pos : Int), [], false, false⟩ (.slice (some ⟨w1.heap.size, 0, none⟩) 1 1)) 76 (0, 0)) := (hg2.block _ (by rw [tc_size]; simp; omega) (by simp; omega)).trans KP.out.2.2.1
      have r12 : w2.heap[w.heap.size + 1]? = some (.cells (claV ⟨[], 0, [], false, false⟩ (.slice none 0 0)) 76 (0, 0)) := (hg2.block _ (by rw [tc_size]; simp; omega) (by simp; omega)).trans KP.out.2.2.2
      have c3 : w2.cell? ⟨(w.heap.size + 1 + 1), 4, none⟩ = some (.bool false) := by rw [cell_of_row _ _ _ _ _ _ rP2]; rfl
      have f3 : w2.frozen? ⟨(w.heap.size + 1 + 1), 4, none⟩ = false := tc_frozen rP2 rfl
      have rP3 : (w2.setCell ⟨(w.heap.size + 1 + 1), 4, none⟩ (.bool true)).heap[(w.heap.size + 1 + 1)]? = some (.cells (claV ⟨t.text, (t.pos : Int), [], false, true⟩ (.slice (some ⟨w1.heap.size, 0, none⟩) 1 1)) 76 (0, 0)) := tc_row rP2 _
      have r13 : (w2.setCell ⟨(w.heap.size + 1 + 1), 4, none⟩ (.bool true)).heap[w.heap.size + 1]? = some (.cells (claV ⟨[], 0, [], false, false⟩ (.slice none 0 0)) 76 (0, 0)) := (tc_far (by omega) _).trans r12
      have R3 : Rd W0 (w2.setCell ⟨(w.heap.size + 1 + 1), 4, none⟩ (.bool true)) g E T2 := rd_setCell R2 (by omega) (by omega) _ _
      have G3 : w.grownBy (w2.setCell ⟨(w.heap.size + 1 + 1), 4, none⟩ (.bool true)) (some g) := gb_setCell (grown_trans KP.out.2.1 hg2) (.inr (by omega)) _ _
      have OWN3 : Hid ((w2.setCell ⟨(w.heap.size + 1 + 1), 4, none⟩ (.bool true)).ownsRow w.heap.size 52 2 (.slice (some ⟨w1.heap.size, 0, none⟩) 1 1) [f].length (gcells figV [f])) := own_set (own_by hg2 hgl.2 OWN2.out) rP2 (by decide) _
      have d3 : (w2.setCell ⟨(w.heap.size + 1 + 1), 4, none⟩ (.bool true)).cell? ⟨(w.heap.size + 1 + 1), 3, none⟩ = some (.bool false) := by rw [cell_of_row _ _ _ _ _ _ rP3]; rfl
      have d4 : (w2.setCell ⟨(w.heap.size + 1 + 1), 4, none⟩ (.bool true)).cell? ⟨(w.heap.size + 1 + 1), 4, none⟩ = some (.bool true) := by rw [cell_of_row _ _ _ _ _ _ rP3]; rfl
      have K3 : Hid (_ ∧ _ ∧ _ ∧ _) := ⟨R3, G3, rP3, r13⟩
      clear hg2 R2 rP2 r12 rP3 r13 R3 G3 OWN2 KP
      go_wp2_with fail
      obtain ⟨w4, hw4⟩ : ∃ w4, w4 = w2.setCell ⟨(w.heap.size + 1 + 1), 4, none⟩ (.bool true) := ⟨_, rfl⟩
      rw [← hw4] at K3 OWN3 ⊢
      have z4 : w4.heap.size = w2.heap.size := by rw [hw4, tc_size]
      clear hw4 d3 d4 c3 f3
      cases hF2 : takeF E T2 with
      | error x =>
        obtain ⟨c, q⟩ := x
        rw [hF2] at HA
        refine own15_panics (Nat.le_of_ble_eq_true rfl) g (w.heap.size + 1 + 1) rfl rfl _ K3.out.2.2.1 (.slice (some ⟨w1.heap.size, 0, none⟩) 1 1) rfl [{ v := faultV c q, recovered := false }] (fun w' => w.grownBy w' (some g)) ?_ ?_
        · refine (CF.out w4.drew T2 (K3.out.1.below ((Below.refl _ _).drew))).mono ?_
          rw [hF2]
          rintro e w' ⟨hg, rfl⟩
          exact ⟨rfl, grown_trans K3.out.2.1 (grown_trans (gb_drew w4 g) hg)⟩
        · intro a' w' hdf hg
          go_wp2_with fail
          rw [HA.out]
          exact ⟨hdf, hg, rfl⟩
      | ok x =>
        obtain ⟨f2, T3⟩ := x
        rw [hF2] at HA
        refine own15_region (Nat.le_of_ble_eq_true rfl) g (w.heap.size + 1 + 1) rfl rfl _ K3.out.2.2.1 (.slice (some ⟨w1.heap.size, 0, none⟩) 1 1) rfl (by omega) [f] w.heap.size OWN3.out (by simp) (by omega) hgl.2 f2 (fun w' => w.grownBy w' (some g) ∧ Rd W0 w' g E T3) ?_ ?_
        · refine (CF.out w4.drew T2 (K3.out.1.below ((Below.refl _ _).drew))).mono ?_
          rw [hF2]
          rintro e w' ⟨hg, ⟨v, rfl, rfl⟩, R⟩
          exact ⟨rfl, hg, grown_trans K3.out.2.1 (grown_trans (gb_drew w4 g) hg), R⟩
        · rintro a' w5 w6 v' ⟨y0, y1, y2, y3, y4, y5, y6, rfl⟩ ⟨G5, R5⟩ hg5 hgr6 hown6 hp6
          simp only [Act.put, List.setIfInBounds_toArray, List.set_cons_succ, List.set_cons_zero]
          obtain ⟨o6, cap6, rfl⟩ := gown_slice hown6
          have z5 := hg5.size
          have z6 := hgr6.size
          have own5 := own_by hg5 hgl.2 OWN3.out
          have hub : ∀ k, ((.slice (some ⟨w1.heap.size, 0, none⟩) 1 1) : Value).ownBlock = some k → w.heap.size ≤ k := fun k hk => (OWN3.out.lt k hk).1
          have r16 : w6.heap[w.heap.size + 1]? = some (.cells (claV ⟨[], 0, [], false, false⟩ (.slice none 0 0)) 76 (0, 0)) := by
            refine (hgr6.block _ (by simp; omega) ?_).trans (heap_past _ _ _ _ ((hg5.block _ (by omega) (by simp; omega)).trans K3.out.2.2.2))
            intro hq
            have hx := hq.symm
            obtain ⟨_, ⟨hv, _⟩ | ⟨g', cap', cur', hv, _, h2, _⟩⟩ := OWN3.out
            · rw [hv] at hx; simp [Value.ownBlock] at hx
            · rw [hv] at hx
              simp only [Value.ownBlock, Option.some.injEq] at hx
              rw [hx, K3.out.2.2.2] at h2
              simp at h2
          have G6 : w.grownBy w6 (some g) := gb_own (gb_alloc G5 _) hgr6 hub
          have R6 : Rd W0 w6 g E T3 := rd_own (R5.alloc _) hgr6 fun k hk => Nat.lt_of_lt_of_le hgl.2 (hub k hk)
          have rP7 : Hid ((w6.setCell ⟨(w.heap.size + 1 + 1), 2, none⟩ (.slice o6 ([f] ++ [f2]).length cap6)).heap[(w.heap.size + 1 + 1)]? = some (.cells (claV ⟨t.text, (t.pos : Int), [f] ++ [f2], false, true⟩ (.slice o6 ([f] ++ [f2]).length cap6)) 76 (0, 0))) := tc_row hp6 _
          have r17 : Hid ((w6.setCell ⟨(w.heap.size + 1 + 1), 2, none⟩ (.slice o6 ([f] ++ [f2]).length cap6)).heap[w.heap.size + 1]? = some (.cells (claV ⟨[], 0, [], false, false⟩ (.slice none 0 0)) 76 (0, 0))) := (tc_far (by omega) _).trans r16
          have OWN7 : Hid ((w6.setCell ⟨(w.heap.size + 1 + 1), 2, none⟩ (.slice o6 ([f] ++ [f2]).length cap6)).ownsRow w.heap.size 52 2 (.slice o6 ([f] ++ [f2]).length cap6) ([f] ++ [f2]).length (gcells figV ([f] ++ [f2]))) := own_set hown6 hp6 (by decide) _
          have G7 : Hid (w.grownBy (w6.setCell ⟨(w.heap.size + 1 + 1), 2, none⟩ (.slice o6 ([f] ++ [f2]).length cap6)) (some g)) := gb_setCell G6 (.inr (by omega)) _ _
          have R7 : Hid (Rd W0 (w6.setCell ⟨(w.heap.size + 1 + 1), 2, none⟩ (.slice o6 ([f] ++ [f2]).length cap6)) g E T3) := rd_setCell R6 (by omega) (by omega) _ _
          clear hown6 hp6 r16 hgr6 own5 G6 R6 G5 R5 hg5
          go_wp2_with (first
            | (refine wl_loadE (E := ClaE) ClaOk rfl _ rfl (w.heap.size + 1 + 1) 0 rfl _ _ _ (claV ⟨t.text, (t.pos : Int), [f] ++ [f2], false, true⟩ (.slice o6 ([f] ++ [f2]).length cap6)) rfl rP7.out (own_cells _ _) ?_)
            | (refine wl_storeE (E := ClaE) ClaOk rfl _ _ rfl (w.heap.size + 1) (claV ⟨t.text, (t.pos : Int), [f] ++ [f2], false, true⟩ (.slice o6 ([f] ++ [f2]).length cap6)) (cla_fits _ _ ⟨_, _, _, rfl⟩) rfl rfl _ r17.out rfl _ rfl ?_))
          refine retE (E := ClaE) ClaOk rfl rfl (w.heap.size + 1) rfl (claV ⟨t.text, (t.pos : Int), [f] ++ [f2], false, true⟩ (.slice o6 ([f] ++ [f2]).length cap6)) rfl (setRow_heap _ _ _ _ _ _ r17.out) ?_
          rw [HA.out]
          exact ⟨gb_setRow G7.out (.inr (by omega)) _, ⟨_, rfl, _, rfl, own_setRow OWN7.out r17.out (by decide) _⟩, rd_setRow R7.out (by omega) (by omega) _⟩
    · obtain ⟨hO, hf4⟩ := rdO_no hk
      rw [hf4]
      rw [hO] at HA
      clear hk hO hf4 c2 f2
      rintro e w2 ⟨hg2, ⟨v, rfl, rfl⟩, R2⟩
      have z2 : w1.heap.size + 1 ≤ w2.heap.size := by have := hg2.size; rw [tc_size] at this; simpa using this
      have rP2 : w2.heap[(w.heap.size + 1 + 1)]? = some (.cells (claV ⟨t.text, (t.pos : Int), [], false, false⟩ (.slice (some ⟨w1.heap.size, 0, none⟩) 1 1)) 76 (0, 0)) := (hg2.block _ (by rw [tc_size]; simp; omega) (by simp; omega)).trans KP.out.2.2.1
      have r12 : w2.heap[w.heap.size + 1]? = some (.cells (claV ⟨[], 0, [], false, false⟩ (.slice none 0 0)) 76 (0, 0)) := (hg2.block _ (by rw [tc_size]; simp; omega) (by simp; omega)).trans KP.out.2.2.2
      have c3 : w2.cell? ⟨(w.heap.size + 1 + 1), 4, none⟩ = some (.bool false) := by rw [cell_of_row _ _ _ _ _ _ rP2]; rfl
      have f3 : w2.frozen? ⟨(w.heap.size + 1 + 1), 4, none⟩ = false := tc_frozen rP2 rfl
      have rP3 : (w2.setCell ⟨(w.heap.size + 1 + 1), 4, none⟩ (.bool false)).heap[(w.heap.size + 1 + 1)]? = some (.cells (claV ⟨t.text, (t.pos : Int), [f], false, false⟩ (.slice (some ⟨w1.heap.size, 0, none⟩) 1 1)) 76 (0, 0)) := tc_row rP2 _
      have r13 : (w2.setCell ⟨(w.heap.size + 1 + 1), 4, none⟩ (.bool false)).heap[w.heap.size + 1]? = some (.cells (claV ⟨[], 0, [], false, false⟩ (.slice none 0 0)) 76 (0, 0)) := (tc_far (by omega) _).trans r12
      have R3 : Rd W0 (w2.setCell ⟨(w.heap.size + 1 + 1), 4, none⟩ (.bool false)) g E T1 := rd_setCell R2 (by omega) (by omega) _ _
      have G3 : w.grownBy (w2.setCell ⟨(w.heap.size + 1 + 1), 4, none⟩ (.bool false)) (some g) := gb_setCell (grown_trans KP.out.2.1 hg2) (.inr (by omega)) _ _
      have OWN3 : Hid ((w2.setCell ⟨(w.heap.size + 1 + 1), 4, none⟩ (.bool false)).ownsRow w.heap.size 52 2 (.slice (some ⟨w1.heap.size, 0, none⟩) 1 1) [f].length (gcells figV [f])) := own_set (own_by hg2 hgl.2 OWN2.out) rP2 (by decide) _
      have d3 : (w2.setCell ⟨(w.heap.size + 1 + 1), 4, none⟩ (.bool false)).cell? ⟨(w.heap.size + 1 + 1), 3, none⟩ = some (.bool false) := by rw [cell_of_row _ _ _ _ _ _ rP3]; rfl
      have d4 : (w2.setCell ⟨(w.heap.size + 1 + 1), 4, none⟩ (.bool false)).cell? ⟨(w.heap.size + 1 + 1), 4, none⟩ = some (.bool false) := by rw [cell_of_row _ _ _ _ _ _ rP3]; rfl
      have K3 : Hid (_ ∧ _ ∧ _ ∧ _) := ⟨R3, G3, rP3, r13⟩
      have HA3 : Hid (A = .ok ((⟨t.text, (t.pos : Int), [f], false, false⟩ : Cla), T1)) := by show _ = _; rw [HA.out]; simp [Except.map]
      clear hg2 R2 rP2 r12 rP3 r13 R3 G3 OWN2 KP
      go_wp2_with (first
        | (refine wl_loadE (E := ClaE) ClaOk rfl _ rfl (w.heap.size + 1 + 1) 0 rfl _ _ _ (claV ⟨t.text, (t.pos : Int), [f], false, false⟩ (.slice (some ⟨w1.heap.size, 0, none⟩) 1 1)) rfl K3.out.2.2.1 (own_cells _ _) ?_)
        | (refine wl_storeE (E := ClaE) ClaOk rfl _ _ rfl (w.heap.size + 1) (claV ⟨t.text, (t.pos : Int), [f], false, false⟩ (.slice (some ⟨w1.heap.size, 0, none⟩) 1 1)) (cla_fits _ _ ⟨_, _, _, rfl⟩) rfl rfl _ K3.out.2.2.2 rfl _ rfl ?_))
      refine retE (E := ClaE) ClaOk rfl rfl (w.heap.size + 1) rfl (claV ⟨t.text, (t.pos : Int), [f], false, false⟩ (.slice (some ⟨w1.heap.size, 0, none⟩) 1 1)) rfl (setRow_heap _ _ _ _ _ _ K3.out.2.2.2) ?_
      rw [HA3.out]
      exact ⟨gb_setRow K3.out.2.1 (.inr (by omega)) _, ⟨_, rfl, _, rfl, own_setRow OWN3.out K3.out.2.2.2 (by decide) _⟩, rd_setRow K3.out.1 (by omega) (by omega) _⟩

set_option maxHeartbeats 4000000 in
set_option maxRecDepth 10000 in
theorem clause_proto (W0 w : World) (g E : Nat) (t : Tok) (ht : t.text = wProto) (T : List Tok) (h : Rd W0 w g E T) :
    Calls Tryd.prog 73 #[.pointer (some ⟨g, 0, none⟩), .agg (encT t)] w fun e w' => Took W0 w g E (ClaR w.heap.size) (protC E t T) e w' := by
  have CF : Hid (∀ W T, Rd W0 W g E T → Calls Tryd.prog 59 #[.pointer (some ⟨g, 0, none⟩)] W fun e w' => Took W0 W g E (fun _ f v => v = .agg (figV f)) (takeF E T) e w') := fun W T h => figure_any W0 W g E T h
  have CA : Hid (∀ W T, Rd W0 W g E T → Calls Tryd.prog 81 #[.pointer (some ⟨g, 0, none⟩)] W fun e w' => Took W0 W g E (FigsOwn W.heap.size) (addrT E T) e w') := fun W T h => address_any W0 W g E T h
  have C4 : Hid (∀ W T, Rd W0 W g E T → Calls Tryd.prog 82 #[.pointer (some ⟨g, 0, none⟩), .int .i64 4] W fun e w' => Took W0 W g E (fun _ b v => v = .bool b) (follT E 4 T) e w') := fun W T h => follows_any W0 W g E 4 (by decide) T h
  have C5 : Hid (∀ W T, Rd W0 W g E T → Calls Tryd.prog 82 #[.pointer (some ⟨g, 0, none⟩), .int .i64 5] W fun e w' => Took W0 W g E (fun _ b v => v = .bool b) (follT E 5 T) e w') := fun W T h => follows_any W0 W g E 5 (by decide) T h
  have hgl := h.size
  have e0 : (t.text == [115, 114, 99]) = false := by rw [ht]; rfl
  have e1 : (t.text == [100, 115, 116]) = false := by rw [ht]; rfl
  have e2 : (t.text == [115, 112, 111, 114, 116]) = false := by rw [ht]; rfl
  have e3 : (t.text == [100, 112, 111, 114, 116]) = false := by rw [ht]; rfl
  have e4 : (t.text == [112, 114, 111, 116, 111]) = true := by rw [ht]; rfl
  have H : Hid (Rd W0 w g E T) := h
  obtain ⟨A, hA⟩ : ∃ A, A = protC E t T := ⟨_, rfl⟩
  rw [← hA]
  unfold protC at hA
  have q1 := fun x => tok_cells (heap_past _ x _ _ (heap_new w (.cells (encT t) 87) _ rfl))
  have q2 := fun x y => tok_cells (heap_past _ y _ _ (heap_past _ x _ _ (heap_new w (.cells (encT t) 87) _ rfl)))
  have t1 := fun x => (q1 x).2.1
  have t2 := fun x => (q1 x).2.2.1
  have t5 := fun x y => (q2 x y).2.1
  have t6 := fun x y => (q2 x y).2.2.1
  clear q1 q2
  clear h ht
  go_enter Tryd.func73, Tryd.ntmps73
  go_wp2_with (first
    | (refine wl_storeE (E := ClaE) ClaOk rfl _ _ rfl (w.heap.size + 2) (claV ⟨t.text, (t.pos : Int), [], false, false⟩ (.slice none 0 0)) (cla_fits _ _ ⟨_, _, _, rfl⟩) rfl rfl _ (heap_new _ _ _ (by simp)) rfl _ (setRow_new _ _ _ _ _ (by simp)) ?_))
  refine (CF.out _ T (((H.out.alloc _).alloc _).alloc _)).mono ?_
  cases hF : takeF E T with
  | error x =>
    obtain ⟨c, q⟩ := x
    have HA2 : Hid (A = .error (c, q)) := by show _ = _; rw [hA, hF]; rfl
    clear hA hF
    rintro e w1 ⟨hg1, rfl⟩
    go_wp2_with fail
    rw [HA2.out]
    exact ⟨rfl, grown_trans (gb_alloc (gb_alloc (gb_alloc (gb_refl w g) _) _) _) hg1, rfl⟩
  | ok x =>
    obtain ⟨f, T1⟩ := x
    have HA : Hid (A = .ok ((⟨t.text, (t.pos : Int), [f], false, false⟩ : Cla), T1)) := by show _ = _; rw [hA, hF]; rfl
    clear hA
    rintro e w1 ⟨hg1, ⟨v, rfl, rfl⟩, R1⟩
    have G1 : w.grownBy w1 (some g) := grown_trans (gb_alloc (gb_alloc (gb_alloc (gb_refl w g) _) _) _) hg1
    have z1 : w.heap.size + 3 ≤ w1.heap.size := by have := hg1.size; simp at this; omega
    have r1 : w1.heap[w.heap.size + 1]? = some (.cells (claV ⟨[], 0, [], false, false⟩ (.slice none 0 0)) 76 (0, 0)) := (hg1.block _ (by simp) (by simp; omega)).trans (heap_past _ _ _ _ (heap_new _ _ _ (by simp)))
    have rP : w1.heap[(w.heap.size + 1 + 1)]? = some (.cells (claV ⟨t.text, (t.pos : Int), [], false, false⟩ (.slice none 0 0)) 76 (0, 0)) := (hg1.block _ (by simp) (by simp; omega)).trans (heap_new _ _ _ (by simp))
    have OWN1 : Hid ((w1.alloc (.cells (figV f) 52)).ownsRow w.heap.size 52 2 (.slice (some ⟨w1.heap.size, 0, none⟩) 1 1) [f].length (gcells figV [f])) := ⟨rfl, Or.inr ⟨w1.heap.size, 1, figV f, rfl, by omega, heap_new _ _ _ rfl, Nat.le_refl 1, by decide, rfl, rfl⟩⟩
    replace r1 := heap_past _ (.cells (figV f) 52) _ _ r1
    have rP0 := rP
    replace rP := heap_past _ (.cells (figV f) 52) _ _ rP
    replace R1 := R1.alloc (.cells (figV f) 52)
    replace G1 := gb_alloc G1 (.cells (figV f) 52)
    have z1' : (w1.alloc (.cells (figV f) 52)).heap.size = w1.heap.size + 1 := by simp
    have c2 : ∀ x, (w1.alloc x).cell? ⟨(w.heap.size + 1 + 1), 2, none⟩ = some (.slice none 0 0) := fun x => by rw [cell_of_row _ _ _ _ _ _ (heap_past _ x _ _ rP0)]; rfl
    have f2 : ∀ x, (w1.alloc x).frozen? ⟨(w.heap.size + 1 + 1), 2, none⟩ = false := fun x => tc_frozen (heap_past _ x _ _ rP0) rfl
    have R1' : Rd W0 ((w1.alloc (.cells (figV f) 52)).setCell ⟨(w.heap.size + 1 + 1), 2, none⟩ (.slice (some ⟨w1.heap.size, 0, none⟩) 1 1)) g E T1 := rd_setCell R1 (by omega) (by omega) _ _
    have G1' : w.grownBy ((w1.alloc (.cells (figV f) 52)).setCell ⟨(w.heap.size + 1 + 1), 2, none⟩ (.slice (some ⟨w1.heap.size, 0, none⟩) 1 1)) (some g) := gb_setCell G1 (.inr (by omega)) _ _
    have rP' : ((w1.alloc (.cells (figV f) 52)).setCell ⟨(w.heap.size + 1 + 1), 2, none⟩ (.slice (some ⟨w1.heap.size, 0, none⟩) 1 1)).heap[(w.heap.size + 1 + 1)]? = some (.cells (claV ⟨t.text, (t.pos : Int), [], false, false⟩ (.slice (some ⟨w1.heap.size, 0, none⟩) 1 1)) 76 (0, 0)) := tc_row rP _
    have r1' : ((w1.alloc (.cells (figV f) 52)).setCell ⟨(w.heap.size + 1 + 1), 2, none⟩ (.slice (some ⟨w1.heap.size, 0, none⟩) 1 1)).heap[w.heap.size + 1]? = some (.cells (claV ⟨[], 0, [], false, false⟩ (.slice none 0 0)) 76 (0, 0)) := (tc_far (by omega) _).trans r1
    have OWN2 : Hid (((w1.alloc (.cells (figV f) 52)).setCell ⟨(w.heap.size + 1 + 1), 2, none⟩ (.slice (some ⟨w1.heap.size, 0, none⟩) 1 1)).ownsRow w.heap.size 52 2 (.slice (some ⟨w1.heap.size, 0, none⟩) 1 1) [f].length (gcells figV [f])) := own_set OWN1.out rP (by decide) _
    have KP : Hid (_ ∧ _ ∧ _ ∧ _) := ⟨R1', G1', rP', r1'⟩
    clear R1 G1 rP r1 R1' G1' rP' r1' OWN1 hg1 hF z1'
    have c3 : ∀ x y, ((w1.alloc x).setCell ⟨(w.heap.size + 1 + 1), 2, none⟩ y).cell? ⟨(w.heap.size + 1 + 1), 3, none⟩ = some (.bool false) := fun x y => by rw [cell_of_row _ _ _ _ _ _ (tc_row (heap_past _ x _ _ rP0) y)]; rfl
    have c4 : ∀ x y, ((w1.alloc x).setCell ⟨(w.heap.size + 1 + 1), 2, none⟩ y).cell? ⟨(w.heap.size + 1 + 1), 4, none⟩ = some (.bool false) := fun x y => by rw [cell_of_row _ _ _ _ _ _ (tc_row (heap_past _ x _ _ rP0) y)]; rfl
    clear rP0
    go_wp2_with (first
      | (refine wl_buildE (E := FigE) FigOk rfl _ rfl (figV f) rfl rfl ?_)
      | (refine wl_loadE (E := ClaE) ClaOk rfl _ rfl (w.heap.size + 1 + 1) 0 rfl _ _ _ (claV ⟨t.text, (t.pos : Int), [f], false, false⟩ (.slice (some ⟨w1.heap.size, 0, none⟩) 1 1)) rfl KP.out.2.2.1 (own_cells _ _) ?_)
      | (refine wl_storeE (E := ClaE) ClaOk rfl _ _ rfl (w.heap.size + 1) (claV ⟨t.text, (t.pos : Int), [f], false, false⟩ (.slice (some ⟨w1.heap.size, 0, none⟩) 1 1)) (cla_fits _ _ ⟨_, _, _, rfl⟩) rfl rfl _ KP.out.2.2.2 rfl _ rfl ?_))
    refine retE (E := ClaE) ClaOk rfl rfl (w.heap.size + 1) rfl (claV ⟨t.text, (t.pos : Int), [f], false, false⟩ (.slice (some ⟨w1.heap.size, 0, none⟩) 1 1)) rfl (setRow_heap _ _ _ _ _ _ KP.out.2.2.2) ?_
    rw [HA.out]
    exact ⟨gb_setRow KP.out.2.1 (.inr (by omega)) _, ⟨_, rfl, _, rfl, own_setRow OWN2.out KP.out.2.2.2 (by decide) _⟩, rd_setRow KP.out.1 (by omega) (by omega) _⟩
end Go.Proofs.YtbdbjbmjnemknaaDoor
namespace Go.Proofs.YtbdbjbmjnemknaaDoor
open Go Go.RowKit
set_option maxRecDepth 20000

def okW (x : List UInt8) : Bool := isAddrW x || isPortW x || x == wProto
/-- A clause, whatever its word. -/
def clauT (E : Nat) (t : Tok) (T : List Tok) : Res (Cla × List Tok) := if isAddrW t.text then addrC E t T else if isPortW t.text then portC E t T else if t.text == wProto then protC E t T else .error (8, t.pos)

set_option maxHeartbeats 4000000 in
theorem clause_other (W0 w : World) (g E : Nat) (t : Tok) (ht : okW t.text = false) :
    Calls Tryd.prog 73 #[.pointer (some ⟨g, 0, none⟩), .agg (encT t)] w fun e w' => Took W0 w g E (ClaR w.heap.size) (.error (8, t.pos)) e w' := by
  unfold okW isAddrW isPortW at ht
  simp only [Bool.or_eq_false_iff] at ht
  have e0 : (t.text == [115, 114, 99]) = false := ht.1.1.1
  have e1 : (t.text == [100, 115, 116]) = false := ht.1.1.2
  have e2 : (t.text == [115, 112, 111, 114, 116]) = false := ht.1.2.1
  have e3 : (t.text == [100, 112, 111, 114, 116]) = false := ht.1.2.2
  have e4 : (t.text == [112, 114, 111, 116, 111]) = false := ht.2
  have q1 := fun x => tok_cells (heap_past _ x _ _ (heap_new w (.cells (encT t) 87) _ rfl))
  have q2 := fun x y => tok_cells (heap_past _ y _ _ (heap_past _ x _ _ (heap_new w (.cells (encT t) 87) _ rfl)))
  have t1 := fun x => (q1 x).2.1
  have t2 := fun x => (q1 x).2.2.1
  have t5 := fun x y => (q2 x y).2.1
  have t6 := fun x y => (q2 x y).2.2.1
  clear q1 q2 ht
  go_enter Tryd.func73, Tryd.ntmps73
  go_wp2_with (first
    | (refine wl_storeE (E := ClaE) ClaOk rfl _ _ rfl (w.heap.size + 2) (claV ⟨t.text, (t.pos : Int), [], false, false⟩ (.slice none 0 0)) (cla_fits _ _ ⟨_, _, _, rfl⟩) rfl rfl _ (heap_new _ _ _ (by simp)) rfl _ (setRow_new _ _ _ _ _ (by simp)) ?_))
  exact ⟨rfl, gb_alloc (gb_alloc (gb_alloc (gb_refl w g) _) _) _, rfl⟩
theorem clause_any (W0 w : World) (g E : Nat) (t : Tok) (T : List Tok) (h : Rd W0 w g E T) :
    Calls Tryd.prog 73 #[.pointer (some ⟨g, 0, none⟩), .agg (encT t)] w fun e w' => Took W0 w g E (ClaR w.heap.size) (clauT E t T) e w' := by
  unfold clauT
  by_cases h1 : t.text = wSrc
  · rw [if_pos (by rw [h1]; rfl)]; exact clause_src W0 w g E t h1 T h
  · by_cases h2 : t.text = wDst
    · rw [if_pos (by rw [h2]; rfl)]; exact clause_dst W0 w g E t h2 T h
    · have hA : isAddrW t.text = false := by unfold isAddrW; rw [Bool.or_eq_false_iff, beq_eq_false_iff_ne, beq_eq_false_iff_ne]; exact ⟨h1, h2⟩
      rw [hA, if_neg (by decide)]
      by_cases h3 : t.text = wSport
      · rw [if_pos (by rw [h3]; rfl)]; exact clause_sport W0 w g E t h3 T h
      · by_cases h4 : t.text = wDport
        · rw [if_pos (by rw [h4]; rfl)]; exact clause_dport W0 w g E t h4 T h
        · have hP : isPortW t.text = false := by unfold isPortW; rw [Bool.or_eq_false_iff, beq_eq_false_iff_ne, beq_eq_false_iff_ne]; exact ⟨h3, h4⟩
          rw [hP, if_neg (by decide)]
          by_cases h5 : t.text = wProto
          · rw [if_pos (by rw [h5]; rfl)]; exact clause_proto W0 w g E t h5 T h
          · have hp5 : (t.text == wProto) = false := by rw [beq_eq_false_iff_ne]; exact h5
            rw [hp5, if_neg (by decide)]
            exact clause_other W0 w g E t (by unfold okW; rw [hA, hP, hp5]; rfl)
/-- What the model says of a clause, and what the reader does. -/
theorem takeC_eq (E : Nat) (had : List Cla) (hh : ∀ c ∈ had, okW c.word = true) (t : Tok) (T : List Tok) : takeC E had t T = if had.any (fun c => c.word == t.text) then .error (9, t.pos) else clauT E t T := by
  unfold takeC clauT
  by_cases hb : had.any (fun c => c.word == t.text) = true
  · rw [if_pos hb]
    obtain ⟨c, hc, hw⟩ := List.any_eq_true.1 hb
    have hk : okW t.text = true := by
      have := hh c hc
      rwa [show c.word = t.text by simpa using hw] at this
    rw [if_neg, if_pos hb]
    unfold okW at hk
    intro hn
    simp only [Bool.and_eq_true, Bool.not_eq_true', Bool.or_eq_true] at hn hk
    rcases hk with (hk | hk) | hk
    · rw [hk] at hn; simp at hn
    · rw [hk] at hn; simp at hn
    · rw [hk] at hn; simp at hn
  · rw [if_neg hb, if_neg hb]
    by_cases hA : isAddrW t.text = true
    · rw [if_pos hA, if_neg (by rw [hA]; simp)]
      unfold addrC addrT
      cases hF : takeF E T with
      | error x => rfl
      | ok x =>
        show (if isAddrW t.text = true then _ else _) = _
        rw [if_pos hA]
        show _ = ((takeD E 3 x.2).map fun y => (x.1 :: y.1, y.2)).bind _
        cases hD : takeD E 3 x.2 with
        | error y => rfl
        | ok y => rfl
    · have hA' : isAddrW t.text = false := by simpa using hA
      rw [hA', if_neg (show ¬ (false = true) by decide)]
      by_cases hP : isPortW t.text = true
      · rw [if_pos hP, if_neg (by rw [hP]; simp)]
        unfold portC
        cases hF : takeF E T with
        | error x => rfl
        | ok x =>
          simp only [Except.bind, Bool.false_eq_true, if_false, hP, if_true]
      · have hP' : isPortW t.text = false := by simpa using hP
        rw [hP', if_neg (show ¬ (false = true) by decide)]
        by_cases hQ : (t.text == wProto) = true
        · rw [if_pos hQ, if_neg (by rw [hQ]; simp)]
          unfold protC
          cases hF : takeF E T with
          | error x => rfl
          | ok x =>
            simp only [Except.bind, Except.map, Bool.false_eq_true, if_false]
        · have hQ' : (t.text == wProto) = false := by simpa using hQ
          rw [hQ', if_neg (show ¬ (false = true) by decide), if_pos (by simp)]
theorem clauT_ok {E : Nat} {t : Tok} {T T' : List Tok} {c : Cla} (h : clauT E t T = .ok (c, T')) : okW c.word = true := by
  unfold clauT at h
  by_cases hA : isAddrW t.text = true
  · rw [if_pos hA] at h
    obtain ⟨y, _, h2⟩ := bind_ok h
    obtain ⟨z, _, h3⟩ := map_ok h2
    cases h3
    unfold okW
    rw [show (Cla.word _) = t.text from rfl, hA]; rfl
  · rw [if_neg hA] at h
    by_cases hP : isPortW t.text = true
    · rw [if_pos hP] at h
      obtain ⟨y, _, h2⟩ := bind_ok h
      obtain ⟨z, _, h3⟩ := map_ok h2
      cases h3
      unfold okW
      rw [show (Cla.word _) = t.text from rfl, hP]; simp
    · rw [if_neg hP] at h
      by_cases hQ : (t.text == wProto) = true
      · rw [if_pos hQ] at h
        obtain ⟨z, _, h3⟩ := map_ok h
        cases h3
        unfold okW
        rw [show (Cla.word _) = t.text from rfl, hQ]; simp
      · rw [if_neg hQ] at h
        cases h
theorem Eats.len {T T' : List Tok} (h : Eats T T') : T'.length ≤ T.length := by
  obtain ⟨A, rfl, _⟩ := h
  simp
/-- How many tokens are left, as memory has it. -/
def restN (w : World) (g : Nat) : Nat := match w.heap[g]? with | some (Obj.cells cs _ _) => (match cs[0]? with | some (Value.slice _ n _) => n | _ => 0) | _ => 0
theorem rest_is {W0 w : World} {g E : Nat} {T : List Tok} (h : Rd W0 w g E T) : restN w g = T.length := by
  obtain ⟨_, _, v, h2, h3⟩ := h
  obtain ⟨o, cap, rfl, _, _⟩ := h3.slice
  unfold restN
  rw [h2]
  rfl
/-- Clauses in memory that are one's own, down to their numbers. -/
def FigsR (B : Nat) (w : World) (c : Cla) (u : Value) : Prop := FigsOwn B w c.nums u
def ClasOwn (B : Nat) (w : World) (C : List Cla) (v : Value) : Prop := NOwn ClaE claV (FigsR B) w B v C
theorem ClasOwn.by {w w' : World} {g B : Nat} (hgr : w.grownBy w' (some g)) (hB : g < B) {C : List Cla} {v : Value} (h : ClasOwn B w C v) : ClasOwn B w' C v := by
  obtain ⟨P, h1, h2, h3⟩ := h
  exact ⟨P, h1, own_by hgr hB h2, fun p hp => own_by hgr hB (h3 p hp)⟩
theorem ClasOwn.below {w w' : World} {B : Nat} (hb : Below w.heap.size w w') {C : List Cla} {v : Value} (h : ClasOwn B w C v) : ClasOwn B w' C v := by
  obtain ⟨P, h1, h2, h3⟩ := h
  exact ⟨P, h1, gown_below h2 hb, fun p hp => gown_below (h3 p hp) hb⟩
theorem figs_slice {B : Nat} {w : World} {c : Cla} {u : Value} (h : FigsR B w c u) : ∃ o n m, u = .slice o n m := by
  obtain ⟨o, cap, e⟩ := gown_slice h
  exact ⟨o, _, cap, e⟩

set_option maxHeartbeats 8000000 in
theorem clauses_any (W0 w : World) (g E : Nat) (T : List Tok) (hTl : T.length ≤ 5000) (h : Rd W0 w g E T) :
    Calls Tryd.prog 60 #[.pointer (some ⟨g, 0, none⟩)] w fun e w' => Took W0 w g E (ClasOwn w.heap.size) (takeCs E T.length [] T) e w' := by
  have CP : Hid (∀ W T, Rd W0 W g E T → Calls Tryd.prog 40 #[.pointer (some ⟨g, 0, none⟩)] W fun e w' => e = .returned (.agg (encT (hd E T))) ∧ Below W.heap.size W w') := fun W T h => peek_any W0 W g E T h
  have CK : Hid (∀ W T, Rd W0 W g E T → Calls Tryd.prog 41 #[.pointer (some ⟨g, 0, none⟩), .int .i64 1] W fun e w' => Took W0 W g E (fun _ t v => v = .agg (encT t)) (takeK E 1 T) e w') := fun W T h => take_any W0 W g E 1 (by decide) T h
  have CC : Hid (∀ W t T, Rd W0 W g E T → Calls Tryd.prog 73 #[.pointer (some ⟨g, 0, none⟩), .agg (encT t)] W fun e w' => Took W0 W g E (ClaR W.heap.size) (clauT E t T) e w') := fun W t T h => clause_any W0 W g E t T h
  have CS : Hid (∀ W v C, ClasOwn w.heap.size W C v → ∀ k t, W.heap[k]? = some (.cells (encT t) 87 (0, 0)) → Calls Tryd.prog 62 #[v, .func (.func 72) #[] #[.pointer (some ⟨k, 0, none⟩)]] W fun e w' => e = .returned (.bool (C.any (fun c => c.word == t.text))) ∧ Below W.heap.size W w') := fun W v C hC k t hk => containsFunc_any (R := FigsR w.heap.size) (fun _ _ _ h => figs_slice h) W v C (NOwn.sl (fun _ _ => rfl) hC) k t hk
  have hmf : ∀ (fn : Fn) (first cap : Array Value) (w : World), (Instr.makeFunc fn first cap).run Tryd.prog w = .ok (.func fn first cap) w := fun _ _ _ _ => rfl
  have hgl := h.size
  have H : Hid (Rd W0 w g E T) := h
  obtain ⟨A, hA⟩ : ∃ A, A = takeCs E T.length [] T := ⟨_, rfl⟩
  rw [← hA]
  have HA0 : Hid (A = takeCs E T.length [] T) := hA
  clear h hA
  go_enter Tryd.func60, Tryd.ntmps60
  go_wp2_with fail
  go_loopw [3] (fun out wr => ∃ (f : Nat) (had : List Cla) (T1 : List Tok), T1.length ≤ f ∧ had.length + T1.length ≤ 5000 ∧ Hid (∀ c ∈ had, okW c.word = true) ∧ Hid (A = takeCs E f had T1) ∧ w.grownBy wr (some g) ∧ Rd W0 wr g E T1 ∧ ClasOwn w.heap.size wr had out) (fun _ wr => restN wr g)
  case atStart => exact ⟨T.length, [], T, Nat.le_refl _, by simpa using hTl, fun c hc => by simp at hc, HA0, gb_refl _ _, H.out, NOwn.nil _ _ _ _ _⟩
  case round =>
    obtain ⟨f, had, T1, hf, hl, HV, HA, hg, R1, hown⟩ := hrel
    have OWN : Hid (ClasOwn w.heap.size wr had u3) := hown
    have HG : Hid (w.grownBy wr (some g)) := hg
    have HR : Hid (Rd W0 wr g E T1) := R1
    clear hown hg R1 HA0
    have hf0 := tok_f0 (hd E T1)
    by_cases hk : (hd E T1).kind = 1
    · obtain ⟨T2, hT2, hK⟩ := takeK_yes (by decide) hk
      have hk' : (((hd E T1).kind : Int) == 1) = true := by simp; omega
      obtain ⟨t, ht⟩ : ∃ t, t = hd E T1 := ⟨_, rfl⟩
      have HT1 : Hid (T1 = t :: T2) := by show _ = _; rw [ht]; exact hT2
      have hl2 : had.length + T2.length + 1 ≤ 5000 := by rw [hT2] at hl; simp at hl; omega
      have hf2 : T2.length + 1 ≤ f := by rw [hT2] at hf; simpa using hf
      obtain ⟨f', rfl⟩ : ∃ f', f = f' + 1 := ⟨f - 1, by omega⟩
      have HA2 : Hid (A = (takeC E had t T2).bind fun x => takeCs E f' (had ++ [x.1]) x.2) := by
        show _ = _
        rw [HA.out, HT1.out, takeCs, if_pos (by rw [ht]; exact hk)]
      have HRest : Hid (restN wr g = T2.length + 1) := by show _ = _; rw [rest_is HR.out, HT1.out]; rfl
      rw [← ht] at hf0 hk' hK
      have HK : Hid (takeK E 1 T1 = .ok (t, T2)) := hK
      clear hk hT2 hK HA hl hf
      go_wp2_with fail
      refine (CP.out _ T1 HR.out).mono ?_
      rw [← ht]
      clear ht
      rintro e w1 ⟨rfl, hb1⟩
      have HR1 : Hid (Rd W0 w1 g E T1) := HR.out.below hb1
      have HG1 : Hid (w.grownBy w1 (some g)) := grown_trans HG.out (grown_below hb1)
      have OWN1 : Hid (ClasOwn w.heap.size w1 had u3) := OWN.out.below hb1
      clear hb1
      go_wp2_with fail
      refine (CK.out _ T1 HR1.out).mono ?_
      rw [HK.out]
      rintro e w2 ⟨hg2, ⟨v, rfl, rfl⟩, R2⟩
      have HG2 : Hid (w.grownBy w2 (some g)) := grown_trans HG1.out hg2
      have OWN2 : Hid (ClasOwn w.heap.size (w2.alloc (.cells (encT t) 87)) had u3) := (OWN1.out.by hg2 hgl.2).below ((Below.refl _ _).alloc (Nat.le_refl _) _)
      have HR2 : Hid (Rd W0 (w2.alloc (.cells (encT t) 87)) g E T2) := R2.alloc _
      have HT : Hid ((w2.alloc (.cells (encT t) 87)).heap[w2.heap.size]? = some (.cells (encT t) 87 (0, 0))) := heap_new _ _ _ rfl
      clear hg2 R2
      go_wp2_with (first
        | (refine wl_storeE (E := TokE) TokOk rfl _ _ rfl w2.heap.size (encT t) (tv_fits _ _ _ _) rfl rfl _ (heap_new _ _ _ rfl) rfl _ (setRow_new _ _ _ _ _ rfl) ?_))
      refine (CS.out _ u3 had OWN2.out w2.heap.size t HT.out).mono ?_
      rintro e w4 ⟨rfl, hb4⟩
      have ht4 : w4.heap[w2.heap.size]? = some (.cells (encT t) 87 (0, 0)) := (hb4.block _ (by simp)).trans HT.out
      obtain ⟨_, t1, _, _⟩ := tok_cells ht4
      have HT4 : Hid (w4.heap[w2.heap.size]? = some (.cells (encT t) 87 (0, 0))) := ht4
      have HG4 : Hid (w.grownBy w4 (some g)) := grown_trans (gb_alloc HG2.out _) (grown_below hb4)
      have OWN4 : Hid (ClasOwn w.heap.size w4 had u3) := OWN2.out.below hb4
      have HR4 : Hid (Rd W0 w4 g E T2) := HR2.out.below hb4
      clear hb4 ht4
      by_cases hd2 : had.any (fun c => c.word == t.text) = true
      · have HA3 : Hid (A = .error (9, t.pos)) := by
          show _ = _
          rw [HA2.out, takeC_eq E had HV.out, if_pos hd2]; rfl
        rw [hd2]
        clear hd2
        go_wp2_with fail
        rw [HA3.out]
        exact ⟨rfl, HG4.out, rfl⟩
      · have HC3 : Hid (takeC E had t T2 = clauT E t T2) := by
          show _ = _
          rw [takeC_eq E had HV.out, if_neg hd2]
        have HA3 : Hid (A = (clauT E t T2).bind fun x => takeCs E f' (had ++ [x.1]) x.2) := by
          show _ = _
          rw [HA2.out, HC3.out]
        have hd3 : had.any (fun c => c.word == t.text) = false := by simpa using hd2
        rw [hd3]
        clear hd2 hd3 t1
        go_wp2_with (first
          | (refine wl_loadE (E := TokE) TokOk rfl _ rfl w2.heap.size 0 rfl _ _ _ (encT t) rfl HT4.out (own_cells _ _) ?_))
        refine (CC.out _ t T2 HR4.out).mono ?_
        cases hC : clauT E t T2 with
        | error x =>
          obtain ⟨c, q⟩ := x
          have HA4 : Hid (A = .error (c, q)) := by show _ = _; rw [HA3.out, hC]; rfl
          clear hC
          rintro e w5 ⟨hg5, rfl⟩
          go_wp2_with fail
          rw [HA4.out]
          exact ⟨rfl, grown_trans HG4.out hg5, rfl⟩
        | ok x =>
          obtain ⟨c, T3⟩ := x
          have HA4 : Hid (A = takeCs E f' (had ++ [c]) T3) := by show _ = _; rw [HA3.out, hC]; rfl
          have hle := (eats_C (HC3.out.trans hC)).len
          have HV4 : Hid (∀ d ∈ had ++ [c], okW d.word = true) := fun d hd => by
            rcases List.mem_append.1 hd with hd | hd
            · exact HV.out d hd
            · rw [List.mem_singleton.1 hd]; exact clauT_ok hC
          clear hC
          rintro e w5 ⟨hg5, ⟨v, rfl, u, rfl, hfig5⟩, R5⟩
          have z4 := HG4.out.size
          have OWN5 : Hid (ClasOwn w.heap.size w5 had u3) := OWN4.out.by hg5 hgl.2
          have HG5 : Hid (w.grownBy w5 (some g)) := grown_trans HG4.out hg5
          have HF5 : Hid (FigsR w.heap.size w5 c u) := gown_base hfig5 z4
          have HR5 : Hid (Rd W0 w5 g E T3) := R5
          obtain ⟨o5, n5, m5, rfl⟩ := figs_slice HF5.out
          clear hg5 hfig5 R5
          go_wp2_with (first
            | (refine wl_buildE (E := ClaE) ClaOk rfl _ rfl (claV c (.slice o5 n5 m5)) rfl rfl ?_)
            | (at_builtin; refine of_stopT ?_))
          unfold StopT
          obtain ⟨P, hP1, hP2, hP3⟩ := OWN5.out
          have HO6 : Hid ((w5.alloc (.cells (claV c (.slice o5 n5 m5)) 76)).ownsRow w.heap.size 76 5 u3 P.length (gcells (fun p : Cla × Value => claV p.1 p.2) P)) := hP2.alloc _
          have hPl : P.length = had.length := by rw [← hP1, List.length_map]
          have z5 := HG5.out.size
          refine wl_appendE (E := ClaE) ClaOk (fun p : Cla × Value => claV p.1 p.2) rfl _ _ rfl w.heap.size _ P (c, .slice o5 n5 m5) (cla_fits _ _ ⟨_, _, _, rfl⟩) rfl HO6.out _ 1 rfl (heap_new _ _ _ rfl) (by omega) (by simp; omega) ?_
          intro v' w6 hown6 hgr6 _
          have apart : ∀ (d : Cla) (x : Value), FigsR w.heap.size w5 d x → FigsR w.heap.size w6 d x := fun d x hx => own_grown hgr6 (hx.alloc _) (own_apart HO6.out (hx.alloc _) (by decide))
          have HOWN6 : Hid (ClasOwn w.heap.size w6 (had ++ [c]) v') := NOwn.snoc hP1 hown6 (fun p hp => apart _ _ (hP3 p hp)) (apart _ _ HF5.out)
          have HG6 : Hid (w.grownBy w6 (some g)) := gb_own (gb_alloc HG5.out _) hgr6 fun k hk => (HO6.out.lt k hk).1
          have HR6 : Hid (Rd W0 w6 g E T3) := rd_own (HR5.out.alloc _) hgr6 fun k hk => Nat.lt_of_lt_of_le hgl.2 (HO6.out.lt k hk).1
          obtain ⟨o6, cap6, rfl⟩ := gown_slice hown6
          clear hown6 hgr6 apart hP1 hP2 hP3 hPl HO6
          simp only [Act.put, List.setIfInBounds_toArray, List.set_cons_succ, List.set_cons_zero]
          go_wp2_with fail
          go_roundw
          case rel => exact ⟨f', had ++ [c], T3, by omega, by simp; omega, HV4, HA4, HG6.out, HR6.out, HOWN6.out⟩
          case measure => rw [HRest.out, rest_is HR6.out]; omega
    · have hk' : (((hd E T1).kind : Int) == 1) = false := by simp; omega
      have HA2 : Hid (A = .ok (had, T1)) := by
        show _ = _
        rw [HA.out]
        cases T1 with
        | nil => cases f <;> rfl
        | cons t T2 =>
          obtain ⟨f', rfl⟩ : ∃ f', f = f' + 1 := ⟨f - 1, by simp at hf; omega⟩
          exact if_neg hk
      clear hk HA
      go_wp2_with fail
      refine (CP.out _ T1 HR.out).mono ?_
      obtain ⟨t, ht⟩ : ∃ t, t = hd E T1 := ⟨_, rfl⟩
      rw [← ht] at hf0 hk' ⊢
      clear ht
      rintro e w1 ⟨rfl, hb1⟩
      go_wp2_with fail
      go_ret
      rw [HA2.out]
      exact ⟨grown_trans HG.out (grown_below hb1), ⟨_, rfl, OWN.out.below hb1⟩, HR.out.below hb1⟩
end Go.Proofs.YtbdbjbmjnemknaaDoor
namespace Go.Proofs.YtbdbjbmjnemknaaDoor
open Go Go.RowKit
set_option maxRecDepth 20000

/-- A line up to what ends it. -/
def lineT (E : Nat) (T : List Tok) : Res (Raw × List Tok) :=
  (takeH E T).bind fun x => (takeK E 6 x.2).bind fun y => (takeA E y.2).map fun z => (⟨(posOf E T : Int), x.1.1, x.1.2.1, x.1.2.2, z.1.1, z.1.2⟩, z.2)
theorem takeR_line (E : Nat) (T : List Tok) : takeR E T = (lineT E T).bind fun x => (takeE x.2).map fun u => (x.1, u) := by
  unfold takeR lineT
  cases takeH E T with
  | error x => rfl
  | ok x =>
    show (takeK E 6 x.2).bind _ = ((takeK E 6 x.2).bind _).bind _
    cases takeK E 6 x.2 with
    | error y => rfl
    | ok y =>
      show (takeA E y.2).bind _ = ((takeA E y.2).map _).bind _
      cases takeA E y.2 with
      | error z => rfl
      | ok z => rfl
def RawR (B : Nat) (w : World) (x : Raw) (v : Value) : Prop := ∃ u, v = .agg (rawV x u) ∧ ClasOwn B w x.clauses u
theorem raw_fits (x : Raw) (u : Value) (hu : ∃ o n k, u = .slice o n k) : Fits RawE (rawV x u) := by
  obtain ⟨o, n, k, rfl⟩ := hu
  exact ⟨rfl, by simp [rawV, Value.oneCell']⟩
theorem store_fig (W : World) (p off : Nat) (cs : Array Value) (ty : TypeId) (hp : W.heap[p]? = some (.cells cs ty (0, 0))) (ho : off + 2 ≤ cs.size) (f : Fig) :
    (storeCells ⟨p, off, none⟩ (figV f).toList).run Tryd.prog W = .ok () ((W.setCell ⟨p, off, none⟩ (.int .i64 f.n)).setCell ⟨p, off + 1, none⟩ (.int .i64 f.pos)) := by
  obtain ⟨x, hx⟩ : ∃ x, W.cell? ⟨p, off, none⟩ = some x := ⟨cs[off], by rw [cell_of_row _ _ _ _ _ _ hp, Array.getElem?_eq_getElem (by omega)]⟩
  have hz : W.frozen? ⟨p, off, none⟩ = false := tc_frozen hp rfl
  have hp2 := tc_row (k := off) hp (.int .i64 f.n)
  obtain ⟨y, hy⟩ : ∃ y, (W.setCell ⟨p, off, none⟩ (.int .i64 f.n)).cell? ⟨p, off + 1, none⟩ = some y := ⟨_, by rw [cell_of_row _ _ _ _ _ _ hp2, Array.getElem?_setIfInBounds_ne (by omega), Array.getElem?_eq_getElem (by omega)]⟩
  have hz2 : (W.setCell ⟨p, off, none⟩ (.int .i64 f.n)).frozen? ⟨p, off + 1, none⟩ = false := tc_frozen hp2 rfl
  simp [figV, go_sem, hx, hz, hy, hz2]
theorem clas_set {w : World} {B : Nat} {C : List Cla} {v : Value} (h : ClasOwn B w C v) {p i : Nat} {cs : Array Value} {fr : Nat × Nat} (hp : w.heap[p]? = some (.cells cs 55 fr)) (y : Value) : ClasOwn B (w.setCell ⟨p, i, none⟩ y) C v := by
  obtain ⟨P, h1, h2, h3⟩ := h
  exact ⟨P, h1, own_set h2 hp (by decide) y, fun q hq => own_set (h3 q hq) hp (by decide) y⟩
theorem clas_setRow {w : World} {B : Nat} {C : List Cla} {v : Value} (h : ClasOwn B w C v) {p : Nat} {cs : Array Value} {fr : Nat × Nat} (hp : w.heap[p]? = some (.cells cs 55 fr)) (ys : Array Value) : ClasOwn B (w.setRow p ys) C v := by
  obtain ⟨P, h1, h2, h3⟩ := h
  exact ⟨P, h1, own_setRow h2 hp (by decide) ys, fun q hq => own_setRow (h3 q hq) hp (by decide) ys⟩
theorem clas_base {w : World} {B B' : Nat} {C : List Cla} {v : Value} (h : ClasOwn B w C v) (hB : B' ≤ B) : ClasOwn B' w C v := by
  obtain ⟨P, h1, h2, h3⟩ := h
  exact ⟨P, h1, gown_base h2 hB, fun q hq => gown_base (h3 q hq) hB⟩
theorem clas_slice {w : World} {B : Nat} {C : List Cla} {v : Value} (h : ClasOwn B w C v) : ∃ o n m, v = .slice o n m := by
  obtain ⟨P, _, h2, _⟩ := h
  obtain ⟨o, cap, e⟩ := gown_slice h2
  exact ⟨o, _, cap, e⟩
theorem clas_nil (w : World) (B : Nat) : ClasOwn B w [] (.slice none 0 0) := NOwn.nil _ _ _ _ _

set_option maxHeartbeats 8000000 in
set_option maxRecDepth 10000 in
theorem line_any (W0 w : World) (g E : Nat) (t : Tok) (T : List Tok) (hTl : (t :: T).length ≤ 5000) (hw : t.text = wDefault → t.kind = 1) (h : Rd W0 w g E (t :: T)) :
    Calls Tryd.prog 42 #[.pointer (some ⟨g, 0, none⟩)] w fun e w' => Took W0 w g E (RawR w.heap.size) (lineT E (t :: T)) e w' := by
  have CP : Hid (∀ W T, Rd W0 W g E T → Calls Tryd.prog 40 #[.pointer (some ⟨g, 0, none⟩)] W fun e w' => e = .returned (.agg (encT (hd E T))) ∧ Below W.heap.size W w') := fun W T h => peek_any W0 W g E T h
  have CF : Hid (∀ W T, Rd W0 W g E T → Calls Tryd.prog 59 #[.pointer (some ⟨g, 0, none⟩)] W fun e w' => Took W0 W g E (fun _ f v => v = .agg (figV f)) (takeF E T) e w') := fun W T h => figure_any W0 W g E T h
  have CK1 : Hid (∀ W T, Rd W0 W g E T → Calls Tryd.prog 41 #[.pointer (some ⟨g, 0, none⟩), .int .i64 1] W fun e w' => Took W0 W g E (fun _ t v => v = .agg (encT t)) (takeK E 1 T) e w') := fun W T h => take_any W0 W g E 1 (by decide) T h
  have CK6 : Hid (∀ W T, Rd W0 W g E T → Calls Tryd.prog 41 #[.pointer (some ⟨g, 0, none⟩), .int .i64 6] W fun e w' => Took W0 W g E (fun _ t v => v = .agg (encT t)) (takeK E 6 T) e w') := fun W T h => take_any W0 W g E 6 (by decide) T h
  have CC : Hid (∀ W T, T.length ≤ 5000 → Rd W0 W g E T → Calls Tryd.prog 60 #[.pointer (some ⟨g, 0, none⟩)] W fun e w' => Took W0 W g E (ClasOwn W.heap.size) (takeCs E T.length [] T) e w') := fun W T hl h => clauses_any W0 W g E T hl h
  have CA : Hid (∀ W T, Rd W0 W g E T → Calls Tryd.prog 61 #[.pointer (some ⟨g, 0, none⟩)] W fun e w' => Took W0 W g E (fun _ a v => ActV v a) (takeA E T) e w') := fun W T h => action_any W0 W g E T h
  have hgl := h.size
  have H : Hid (Rd W0 w g E (t :: T)) := h
  obtain ⟨A, hA⟩ : ∃ A, A = lineT E (t :: T) := ⟨_, rfl⟩
  rw [← hA]
  unfold lineT at hA
  have hwT : posOf E (t :: T) = t.pos := rfl
  rw [hwT] at hA
  clear h hwT
  go_enter Tryd.func42, Tryd.ntmps42
  go_wp2_with fail
  refine (CP.out _ (t :: T) (H.out.alloc _)).mono ?_
  rintro e w1 ⟨rfl, hb1⟩
  have B1 : Below w.heap.size w w1 := ((Below.refl _ _).alloc (Nat.le_refl _) _).trans (hb1.mono (by simp))
  have z1 : w.heap.size < w1.heap.size := by have := hb1.size; simp at this; omega
  have r0 : w1.heap[w.heap.size]? = some (.cells (rawV ⟨0, false, ⟨0, 0⟩, [], false, ⟨0, 0⟩⟩ (.slice none 0 0)) 55 (0, 0)) := (hb1.block _ (by simp)).trans (heap_new _ _ _ rfl)
  have HR1 : Hid (Rd W0 w1 g E (t :: T)) := H.out.below B1
  have HG1 : Hid (w.grownBy w1 (some g)) := grown_below B1
  have HR0 : Hid (w1.heap[w.heap.size]? = some (.cells (rawV ⟨0, false, ⟨0, 0⟩, [], false, ⟨0, 0⟩⟩ (.slice none 0 0)) 55 (0, 0))) := r0
  have q1 := tok_cells (heap_new w1 (.cells (encT t) 87) _ rfl)
  have q2 := fun x => tok_cells (heap_past _ x _ _ (heap_new w1 (.cells (encT t) 87) _ rfl))
  have t1 := q1.2.1
  have t2 := fun x => (q2 x).2.2.1
  clear q1 q2 hb1 B1 r0
  have hhd : hd E (t :: T) = t := rfl
  rw [hhd]
  clear hhd
  have LN : Hid (((w1.alloc (.cells (encT t) 87)).alloc (.cells (rawV ⟨(t.pos : Int), false, ⟨0, 0⟩, [], false, ⟨0, 0⟩⟩ (.slice none 0 0)) 55)).heap[w1.heap.size + 1]? = some (.cells (rawV ⟨(t.pos : Int), false, ⟨0, 0⟩, [], false, ⟨0, 0⟩⟩ (.slice none 0 0)) 55 (0, 0))) := heap_new _ _ _ (by simp)
  by_cases hd : t.text = wDefault
  · have e1 : (t.text == [100, 101, 102, 97, 117, 108, 116]) = true := by rw [hd]; rfl
    have hH : takeH E (t :: T) = .ok ((true, ⟨0, 0⟩, []), T) := if_pos ⟨hw hd, hd⟩
    have hK1 : takeK E 1 (t :: T) = .ok (t, T) := if_pos (hw hd)
    rw [hH] at hA
    have HA : Hid (A = (takeK E 6 T).bind fun y => (takeA E y.2).map fun z => (⟨(t.pos : Int), true, ⟨0, 0⟩, [], z.1.1, z.1.2⟩, z.2)) := hA
    clear hA hH hd hw
    go_wp2_with (first
      | (refine wl_storeE (E := TokE) TokOk rfl _ _ rfl w1.heap.size (encT t) (tv_fits _ _ _ _) rfl rfl _ (heap_new _ _ _ rfl) rfl _ (setRow_new _ _ _ _ _ rfl) ?_)
      | (refine wl_storeE (E := RawE) RawOk rfl _ _ rfl (w1.heap.size + 1) (rawV ⟨(t.pos : Int), false, ⟨0, 0⟩, [], false, ⟨0, 0⟩⟩ (.slice none 0 0)) (raw_fits _ _ ⟨_, _, _, rfl⟩) rfl rfl _ (heap_new _ _ _ (by simp)) rfl _ (setRow_new _ _ _ _ _ (by simp)) ?_))
    refine (CK1.out _ (t :: T) ((HR1.out.alloc _).alloc _)).mono ?_
    rw [hK1]
    clear hK1
    rintro e w2 ⟨hg2, ⟨v, rfl, rfl⟩, R2⟩
    have z2 : w1.heap.size + 2 ≤ w2.heap.size := by have := hg2.size; simp at this; omega
    have rP2 : w2.heap[w1.heap.size + 1]? = some (.cells (rawV ⟨(t.pos : Int), false, ⟨0, 0⟩, [], false, ⟨0, 0⟩⟩ (.slice none 0 0)) 55 (0, 0)) := (hg2.block _ (by simp) (by simp; omega)).trans LN.out
    have r02 : w2.heap[w.heap.size]? = some (.cells (rawV ⟨0, false, ⟨0, 0⟩, [], false, ⟨0, 0⟩⟩ (.slice none 0 0)) 55 (0, 0)) := (hg2.block _ (by simp; omega) (by simp; omega)).trans (heap_past _ _ _ _ (heap_past _ _ _ _ HR0.out))
    have c1 : w2.cell? ⟨w1.heap.size + 1, 1, none⟩ = some (.bool false) := by rw [cell_of_row _ _ _ _ _ _ rP2]; rfl
    have f1 : w2.frozen? ⟨w1.heap.size + 1, 1, none⟩ = false := tc_frozen rP2 rfl
    have K3 : Hid (Rd W0 (w2.setCell ⟨w1.heap.size + 1, 1, none⟩ (.bool true)) g E T ∧ w.grownBy (w2.setCell ⟨w1.heap.size + 1, 1, none⟩ (.bool true)) (some g) ∧ (w2.setCell ⟨w1.heap.size + 1, 1, none⟩ (.bool true)).heap[w1.heap.size + 1]? = some (.cells (rawV ⟨(t.pos : Int), true, ⟨0, 0⟩, [], false, ⟨0, 0⟩⟩ (.slice none 0 0)) 55 (0, 0)) ∧ (w2.setCell ⟨w1.heap.size + 1, 1, none⟩ (.bool true)).heap[w.heap.size]? = some (.cells (rawV ⟨0, false, ⟨0, 0⟩, [], false, ⟨0, 0⟩⟩ (.slice none 0 0)) 55 (0, 0)) ∧ ClasOwn w.heap.size (w2.setCell ⟨w1.heap.size + 1, 1, none⟩ (.bool true)) [] (.slice none 0 0)) :=
      ⟨rd_setCell R2 (by omega) (by omega) _ _, gb_setCell (grown_trans (gb_alloc (gb_alloc HG1.out _) _) hg2) (.inr (by omega)) _ _, tc_row rP2 _, (tc_far (by omega) _).trans r02, clas_nil _ _⟩
    clear hg2 R2 rP2 r02 LN HR1 HG1 HR0 t1 t2
    go_wp2_with fail
    refine (CK6.out _ T K3.out.1).mono ?_
    clear c1 f1
    obtain ⟨w3, hw3⟩ : ∃ w3, w3 = w2.setCell ⟨w1.heap.size + 1, 1, none⟩ (.bool true) := ⟨_, rfl⟩
    rw [← hw3] at K3 ⊢
    have z3 : w2.heap.size ≤ w3.heap.size := by rw [hw3, tc_size]; exact Nat.le_refl _
    clear hw3
    cases hK : takeK E 6 T with
    | error x =>
      obtain ⟨c, q⟩ := x
      rw [hK] at HA
      clear hK
      rintro e w4 ⟨hg4, rfl⟩
      go_wp2_with fail
      rw [HA.out]
      exact ⟨rfl, grown_trans K3.out.2.1 hg4, rfl⟩
    | ok x =>
      obtain ⟨t6, T3⟩ := x
      rw [hK] at HA
      clear hK
      rintro e w4 ⟨hg4, ⟨v, rfl, rfl⟩, R4⟩
      have z4 := hg4.size
      have K4 : Hid (Rd W0 w4 g E T3 ∧ w.grownBy w4 (some g) ∧ w4.heap[(w1.heap.size + 1)]? = some (.cells (rawV ⟨(t.pos : Int), true, ⟨0, 0⟩, [], false, ⟨0, 0⟩⟩ (.slice none 0 0)) 55 (0, 0)) ∧ w4.heap[w.heap.size]? = some (.cells (rawV ⟨0, false, ⟨0, 0⟩, [], false, ⟨0, 0⟩⟩ (.slice none 0 0)) 55 (0, 0)) ∧ ClasOwn w.heap.size w4 [] (.slice none 0 0)) :=
        ⟨R4, grown_trans K3.out.2.1 hg4, (hg4.block _ (by omega) (by simp; omega)).trans K3.out.2.2.1, (hg4.block _ (by omega) (by simp; omega)).trans K3.out.2.2.2.1, K3.out.2.2.2.2.by hg4 hgl.2⟩
      clear hg4 R4 K3
      go_wp2_with fail
      refine (CA.out _ T3 K4.out.1).mono ?_
      cases hAc : takeA E T3 with
      | error x =>
        obtain ⟨c, q⟩ := x
        have HA2 : Hid (A = .error (c, q)) := by show _ = _; rw [HA.out]; show (takeA E T3).map _ = _; rw [hAc]; rfl
        clear hAc HA
        rintro e w5 ⟨hg5, rfl⟩
        go_wp2_with fail
        rw [HA2.out]
        exact ⟨rfl, grown_trans K4.out.2.1 hg5, rfl⟩
      | ok x =>
        obtain ⟨⟨b, po⟩, T4⟩ := x
        have HA2 : Hid (A = .ok ((⟨(t.pos : Int), true, ⟨0, 0⟩, [], b, po⟩ : Raw), T4)) := by show _ = _; rw [HA.out]; show (takeA E T3).map _ = _; rw [hAc]; rfl
        clear hAc HA
        rintro e w5 ⟨hg5, ⟨v, rfl, hv⟩, R5⟩
        unfold ActV at hv
        subst hv
        have z5 := hg5.size
        have rP5 : w5.heap[(w1.heap.size + 1)]? = some (.cells (rawV ⟨(t.pos : Int), true, ⟨0, 0⟩, [], false, ⟨0, 0⟩⟩ (.slice none 0 0)) 55 (0, 0)) := (hg5.block _ (by omega) (by simp; omega)).trans K4.out.2.2.1
        have r05 : w5.heap[w.heap.size]? = some (.cells (rawV ⟨0, false, ⟨0, 0⟩, [], false, ⟨0, 0⟩⟩ (.slice none 0 0)) 55 (0, 0)) := (hg5.block _ (by omega) (by simp; omega)).trans K4.out.2.2.2.1
        have G5 : w.grownBy w5 (some g) := grown_trans K4.out.2.1 hg5
        have O5 := K4.out.2.2.2.2.by hg5 hgl.2
        have c5 : w5.cell? ⟨(w1.heap.size + 1), 5, none⟩ = some (.bool false) := by rw [cell_of_row _ _ _ _ _ _ rP5]; rfl
        have f5 : w5.frozen? ⟨(w1.heap.size + 1), 5, none⟩ = false := tc_frozen rP5 rfl
        have rP6 := tc_row (k := 5) rP5 (.bool b)
        have hst := store_fig (w5.setCell ⟨(w1.heap.size + 1), 5, none⟩ (.bool b)) (w1.heap.size + 1) 6 _ _ rP6 (by simp [rawV]) po
        have hex0 : ∀ W, (Instr.extract (.tuple #[.bool b, .agg (figV po)]) 0).run Tryd.prog W = .ok (.bool b) W := fun W => by kernel_rfl
        have hex1 : ∀ W, (Instr.extract (.tuple #[.bool b, .agg (figV po)]) 1).run Tryd.prog W = .ok (.agg (figV po)) W := fun W => by kernel_rfl
        have rP8 : Hid ((((w5.setCell ⟨(w1.heap.size + 1), 5, none⟩ (.bool b)).setCell ⟨(w1.heap.size + 1), 6, none⟩ (.int .i64 po.n)).setCell ⟨(w1.heap.size + 1), 6 + 1, none⟩ (.int .i64 po.pos)).heap[(w1.heap.size + 1)]? = some (.cells (rawV ⟨(t.pos : Int), true, ⟨0, 0⟩, [], b, po⟩ (.slice none 0 0)) 55 (0, 0))) := tc_row (tc_row rP6 _) _
        have r08 : Hid ((((w5.setCell ⟨(w1.heap.size + 1), 5, none⟩ (.bool b)).setCell ⟨(w1.heap.size + 1), 6, none⟩ (.int .i64 po.n)).setCell ⟨(w1.heap.size + 1), 6 + 1, none⟩ (.int .i64 po.pos)).heap[w.heap.size]? = some (.cells (rawV ⟨0, false, ⟨0, 0⟩, [], false, ⟨0, 0⟩⟩ (.slice none 0 0)) 55 (0, 0))) := (tc_far (by omega) _).trans ((tc_far (by omega) _).trans ((tc_far (by omega) _).trans r05))
        have O8 : Hid (ClasOwn w.heap.size (((w5.setCell ⟨(w1.heap.size + 1), 5, none⟩ (.bool b)).setCell ⟨(w1.heap.size + 1), 6, none⟩ (.int .i64 po.n)).setCell ⟨(w1.heap.size + 1), 6 + 1, none⟩ (.int .i64 po.pos)) [] (.slice none 0 0)) := clas_set (clas_set (clas_set O5 rP5 _) rP6 _) (tc_row rP6 _) _
        have G8 : Hid (w.grownBy (((w5.setCell ⟨(w1.heap.size + 1), 5, none⟩ (.bool b)).setCell ⟨(w1.heap.size + 1), 6, none⟩ (.int .i64 po.n)).setCell ⟨(w1.heap.size + 1), 6 + 1, none⟩ (.int .i64 po.pos)) (some g)) := gb_setCell (gb_setCell (gb_setCell G5 (.inr (by omega)) _ _) (.inr (by omega)) _ _) (.inr (by omega)) _ _
        have R8 : Hid (Rd W0 (((w5.setCell ⟨(w1.heap.size + 1), 5, none⟩ (.bool b)).setCell ⟨(w1.heap.size + 1), 6, none⟩ (.int .i64 po.n)).setCell ⟨(w1.heap.size + 1), 6 + 1, none⟩ (.int .i64 po.pos)) g E T4) := rd_setCell (rd_setCell (rd_setCell R5 (by omega) (by omega) _ _) (by omega) (by omega) _ _) (by omega) (by omega) _ _
        clear rP5 r05 rP6 G5 O5 R5 hg5 K4
        go_wp2_with (first
          | (refine wl_loadE (E := RawE) RawOk rfl _ rfl (w1.heap.size + 1) 0 rfl _ _ _ (rawV ⟨(t.pos : Int), true, ⟨0, 0⟩, [], b, po⟩ (.slice none 0 0)) rfl rP8.out (own_cells _ _) ?_)
          | (refine wl_storeE (E := RawE) RawOk rfl _ _ rfl w.heap.size (rawV ⟨(t.pos : Int), true, ⟨0, 0⟩, [], b, po⟩ (.slice none 0 0)) (raw_fits _ _ ⟨_, _, _, rfl⟩) rfl rfl _ r08.out rfl _ rfl ?_))
        refine retE (E := RawE) RawOk rfl rfl w.heap.size rfl (rawV ⟨(t.pos : Int), true, ⟨0, 0⟩, [], b, po⟩ (.slice none 0 0)) rfl (setRow_heap _ _ _ _ _ _ r08.out) ?_
        rw [HA2.out]
        exact ⟨gb_setRow G8.out (.inr (Nat.le_refl _)) _, ⟨_, rfl, _, rfl, clas_setRow O8.out r08.out _⟩, rd_setRow R8.out (by omega) (by omega) _⟩
  · have e1 : (t.text == [100, 101, 102, 97, 117, 108, 116]) = false := by rw [beq_eq_false_iff_ne]; exact hd
    have hH : takeH E (t :: T) = (takeF E (t :: T)).bind fun x => (takeCs E x.2.length [] x.2).map fun y => ((false, x.1, y.1), y.2) := if_neg fun hq => hd hq.2
    rw [hH] at hA
    clear hH hd hw
    go_wp2_with (first
      | (refine wl_storeE (E := TokE) TokOk rfl _ _ rfl w1.heap.size (encT t) (tv_fits _ _ _ _) rfl rfl _ (heap_new _ _ _ rfl) rfl _ (setRow_new _ _ _ _ _ rfl) ?_)
      | (refine wl_storeE (E := RawE) RawOk rfl _ _ rfl (w1.heap.size + 1) (rawV ⟨(t.pos : Int), false, ⟨0, 0⟩, [], false, ⟨0, 0⟩⟩ (.slice none 0 0)) (raw_fits _ _ ⟨_, _, _, rfl⟩) rfl rfl _ (heap_new _ _ _ (by simp)) rfl _ (setRow_new _ _ _ _ _ (by simp)) ?_))
    refine (CF.out _ (t :: T) ((HR1.out.alloc _).alloc _)).mono ?_
    cases hF : takeF E (t :: T) with
    | error x =>
      obtain ⟨c, q⟩ := x
      have HA : Hid (A = .error (c, q)) := by show _ = _; rw [hA, hF]; rfl
      clear hA hF
      rintro e w2 ⟨hg2, rfl⟩
      go_wp2_with fail
      rw [HA.out]
      exact ⟨rfl, grown_trans (gb_alloc (gb_alloc HG1.out _) _) hg2, rfl⟩
    | ok x =>
      obtain ⟨pr, T1⟩ := x
      have hT1 : T1.length ≤ 5000 := Nat.le_trans (eats_F hF).len hTl
      rw [hF] at hA
      have HA0 : Hid (A = ((takeCs E T1.length [] T1).map fun y => ((false, pr, y.1), y.2)).bind fun x => (takeK E 6 x.2).bind fun y => (takeA E y.2).map fun z => (⟨(t.pos : Int), x.1.1, x.1.2.1, x.1.2.2, z.1.1, z.1.2⟩, z.2)) := hA
      clear hA hF
      rintro e w2 ⟨hg2, ⟨v, rfl, rfl⟩, R2⟩
      have z2 : w1.heap.size + 2 ≤ w2.heap.size := by have := hg2.size; simp at this; omega
      have rP2 : w2.heap[w1.heap.size + 1]? = some (.cells (rawV ⟨(t.pos : Int), false, ⟨0, 0⟩, [], false, ⟨0, 0⟩⟩ (.slice none 0 0)) 55 (0, 0)) := (hg2.block _ (by simp) (by simp; omega)).trans LN.out
      have r02 : w2.heap[w.heap.size]? = some (.cells (rawV ⟨0, false, ⟨0, 0⟩, [], false, ⟨0, 0⟩⟩ (.slice none 0 0)) 55 (0, 0)) := (hg2.block _ (by simp; omega) (by simp; omega)).trans (heap_past _ _ _ _ (heap_past _ _ _ _ HR0.out))
      have hst := store_fig w2 (w1.heap.size + 1) 2 _ _ rP2 (by simp [rawV]) pr
      have K2 : Hid (Rd W0 ((w2.setCell ⟨(w1.heap.size + 1), 2, none⟩ (.int .i64 pr.n)).setCell ⟨(w1.heap.size + 1), 2 + 1, none⟩ (.int .i64 pr.pos)) g E T1 ∧ w.grownBy ((w2.setCell ⟨(w1.heap.size + 1), 2, none⟩ (.int .i64 pr.n)).setCell ⟨(w1.heap.size + 1), 2 + 1, none⟩ (.int .i64 pr.pos)) (some g) ∧ ((w2.setCell ⟨(w1.heap.size + 1), 2, none⟩ (.int .i64 pr.n)).setCell ⟨(w1.heap.size + 1), 2 + 1, none⟩ (.int .i64 pr.pos)).heap[(w1.heap.size + 1)]? = some (.cells (rawV ⟨(t.pos : Int), false, pr, [], false, ⟨0, 0⟩⟩ (.slice none 0 0)) 55 (0, 0)) ∧ ((w2.setCell ⟨(w1.heap.size + 1), 2, none⟩ (.int .i64 pr.n)).setCell ⟨(w1.heap.size + 1), 2 + 1, none⟩ (.int .i64 pr.pos)).heap[w.heap.size]? = some (.cells (rawV ⟨0, false, ⟨0, 0⟩, [], false, ⟨0, 0⟩⟩ (.slice none 0 0)) 55 (0, 0))) :=
        ⟨rd_setCell (rd_setCell R2 (by omega) (by omega) _ _) (by omega) (by omega) _ _, gb_setCell (gb_setCell (grown_trans (gb_alloc (gb_alloc HG1.out _) _) hg2) (.inr (by omega)) _ _) (.inr (by omega)) _ _, tc_row (tc_row rP2 _) _, (tc_far (by omega) _).trans ((tc_far (by omega) _).trans r02)⟩
      clear hg2 R2 rP2 r02 LN HR1 HG1 HR0 t1 t2
      go_wp2_with fail
      refine (CC.out _ T1 hT1 K2.out.1).mono ?_
      cases hC : takeCs E T1.length [] T1 with
      | error x =>
        obtain ⟨c, q⟩ := x
        have HA : Hid (A = .error (c, q)) := by show _ = _; rw [HA0.out, hC]; rfl
        clear hC HA0
        rintro e w3 ⟨hg3, rfl⟩
        go_wp2_with fail
        rw [HA.out]
        exact ⟨rfl, grown_trans K2.out.2.1 hg3, rfl⟩
      | ok x =>
        obtain ⟨C, T2⟩ := x
        have HA : Hid (A = (takeK E 6 T2).bind fun y => (takeA E y.2).map fun z => (⟨(t.pos : Int), false, pr, C, z.1.1, z.1.2⟩, z.2)) := by show _ = _; rw [HA0.out, hC]; rfl
        clear hC HA0 hst
        rintro e wc ⟨hgc, ⟨v, rfl, hclc⟩, Rc⟩
        have zc : w2.heap.size ≤ wc.heap.size := by have := hgc.size; rw [tc_size, tc_size] at this; exact this
        obtain ⟨o, n, m, rfl⟩ := clas_slice hclc
        have rPc : wc.heap[(w1.heap.size + 1)]? = some (.cells (rawV ⟨(t.pos : Int), false, pr, [], false, ⟨0, 0⟩⟩ (.slice none 0 0)) 55 (0, 0)) := (hgc.block _ (by rw [tc_size, tc_size]; omega) (by simp; omega)).trans K2.out.2.2.1
        have r0c : wc.heap[w.heap.size]? = some (.cells (rawV ⟨0, false, ⟨0, 0⟩, [], false, ⟨0, 0⟩⟩ (.slice none 0 0)) 55 (0, 0)) := (hgc.block _ (by rw [tc_size, tc_size]; omega) (by simp; omega)).trans K2.out.2.2.2
        have c4 : wc.cell? ⟨(w1.heap.size + 1), 4, none⟩ = some (.slice none 0 0) := by rw [cell_of_row _ _ _ _ _ _ rPc]; rfl
        have f4 : wc.frozen? ⟨(w1.heap.size + 1), 4, none⟩ = false := tc_frozen rPc rfl
        have K3 : Hid (Rd W0 (wc.setCell ⟨(w1.heap.size + 1), 4, none⟩ (.slice o n m)) g E T2 ∧ w.grownBy (wc.setCell ⟨(w1.heap.size + 1), 4, none⟩ (.slice o n m)) (some g) ∧ (wc.setCell ⟨(w1.heap.size + 1), 4, none⟩ (.slice o n m)).heap[(w1.heap.size + 1)]? = some (.cells (rawV ⟨(t.pos : Int), false, pr, C, false, ⟨0, 0⟩⟩ (.slice o n m)) 55 (0, 0)) ∧ (wc.setCell ⟨(w1.heap.size + 1), 4, none⟩ (.slice o n m)).heap[w.heap.size]? = some (.cells (rawV ⟨0, false, ⟨0, 0⟩, [], false, ⟨0, 0⟩⟩ (.slice none 0 0)) 55 (0, 0)) ∧ ClasOwn w.heap.size (wc.setCell ⟨(w1.heap.size + 1), 4, none⟩ (.slice o n m)) C (.slice o n m)) :=
          ⟨rd_setCell Rc (by omega) (by omega) _ _, gb_setCell (grown_trans K2.out.2.1 hgc) (.inr (by omega)) _ _, tc_row rPc _, (tc_far (by omega) _).trans r0c, clas_set (clas_base hclc (by rw [tc_size, tc_size]; omega)) rPc _⟩
        clear hgc hclc Rc rPc r0c K2
        go_wp2_with fail
        refine (CK6.out _ T2 K3.out.1).mono ?_
        clear c4 f4
        obtain ⟨w3, hw3⟩ : ∃ w3, w3 = wc.setCell ⟨(w1.heap.size + 1), 4, none⟩ (.slice o n m) := ⟨_, rfl⟩
        rw [← hw3] at K3 ⊢
        have z3 : wc.heap.size ≤ w3.heap.size := by rw [hw3, tc_size]; exact Nat.le_refl _
        clear hw3
        cases hK : takeK E 6 T2 with
        | error x =>
          obtain ⟨c, q⟩ := x
          rw [hK] at HA
          clear hK
          rintro e w4 ⟨hg4, rfl⟩
          go_wp2_with fail
          rw [HA.out]
          exact ⟨rfl, grown_trans K3.out.2.1 hg4, rfl⟩
        | ok x =>
          obtain ⟨t6, T3⟩ := x
          rw [hK] at HA
          clear hK
          rintro e w4 ⟨hg4, ⟨v, rfl, rfl⟩, R4⟩
          have z4 := hg4.size
          have K4 : Hid (Rd W0 w4 g E T3 ∧ w.grownBy w4 (some g) ∧ w4.heap[(w1.heap.size + 1)]? = some (.cells (rawV ⟨(t.pos : Int), false, pr, C, false, ⟨0, 0⟩⟩ (.slice o n m)) 55 (0, 0)) ∧ w4.heap[w.heap.size]? = some (.cells (rawV ⟨0, false, ⟨0, 0⟩, [], false, ⟨0, 0⟩⟩ (.slice none 0 0)) 55 (0, 0)) ∧ ClasOwn w.heap.size w4 C (.slice o n m)) :=
            ⟨R4, grown_trans K3.out.2.1 hg4, (hg4.block _ (by omega) (by simp; omega)).trans K3.out.2.2.1, (hg4.block _ (by omega) (by simp; omega)).trans K3.out.2.2.2.1, K3.out.2.2.2.2.by hg4 hgl.2⟩
          clear hg4 R4 K3
          go_wp2_with fail
          refine (CA.out _ T3 K4.out.1).mono ?_
          cases hAc : takeA E T3 with
          | error x =>
            obtain ⟨c, q⟩ := x
            have HA2 : Hid (A = .error (c, q)) := by show _ = _; rw [HA.out]; show (takeA E T3).map _ = _; rw [hAc]; rfl
            clear hAc HA
            rintro e w5 ⟨hg5, rfl⟩
            go_wp2_with fail
            rw [HA2.out]
            exact ⟨rfl, grown_trans K4.out.2.1 hg5, rfl⟩
          | ok x =>
            obtain ⟨⟨b, po⟩, T4⟩ := x
            have HA2 : Hid (A = .ok ((⟨(t.pos : Int), false, pr, C, b, po⟩ : Raw), T4)) := by show _ = _; rw [HA.out]; show (takeA E T3).map _ = _; rw [hAc]; rfl
            clear hAc HA
            rintro e w5 ⟨hg5, ⟨v, rfl, hv⟩, R5⟩
            unfold ActV at hv
            subst hv
            have z5 := hg5.size
            have rP5 : w5.heap[(w1.heap.size + 1)]? = some (.cells (rawV ⟨(t.pos : Int), false, pr, C, false, ⟨0, 0⟩⟩ (.slice o n m)) 55 (0, 0)) := (hg5.block _ (by omega) (by simp; omega)).trans K4.out.2.2.1
            have r05 : w5.heap[w.heap.size]? = some (.cells (rawV ⟨0, false, ⟨0, 0⟩, [], false, ⟨0, 0⟩⟩ (.slice none 0 0)) 55 (0, 0)) := (hg5.block _ (by omega) (by simp; omega)).trans K4.out.2.2.2.1
            have G5 : w.grownBy w5 (some g) := grown_trans K4.out.2.1 hg5
            have O5 := K4.out.2.2.2.2.by hg5 hgl.2
            have c5 : w5.cell? ⟨(w1.heap.size + 1), 5, none⟩ = some (.bool false) := by rw [cell_of_row _ _ _ _ _ _ rP5]; rfl
            have f5 : w5.frozen? ⟨(w1.heap.size + 1), 5, none⟩ = false := tc_frozen rP5 rfl
            have rP6 := tc_row (k := 5) rP5 (.bool b)
            have hst := store_fig (w5.setCell ⟨(w1.heap.size + 1), 5, none⟩ (.bool b)) (w1.heap.size + 1) 6 _ _ rP6 (by simp [rawV]) po
            have hex0 : ∀ W, (Instr.extract (.tuple #[.bool b, .agg (figV po)]) 0).run Tryd.prog W = .ok (.bool b) W := fun W => by kernel_rfl
            have hex1 : ∀ W, (Instr.extract (.tuple #[.bool b, .agg (figV po)]) 1).run Tryd.prog W = .ok (.agg (figV po)) W := fun W => by kernel_rfl
            have rP8 : Hid ((((w5.setCell ⟨(w1.heap.size + 1), 5, none⟩ (.bool b)).setCell ⟨(w1.heap.size + 1), 6, none⟩ (.int .i64 po.n)).setCell ⟨(w1.heap.size + 1), 6 + 1, none⟩ (.int .i64 po.pos)).heap[(w1.heap.size + 1)]? = some (.cells (rawV ⟨(t.pos : Int), false, pr, C, b, po⟩ (.slice o n m)) 55 (0, 0))) := tc_row (tc_row rP6 _) _
            have r08 : Hid ((((w5.setCell ⟨(w1.heap.size + 1), 5, none⟩ (.bool b)).setCell ⟨(w1.heap.size + 1), 6, none⟩ (.int .i64 po.n)).setCell ⟨(w1.heap.size + 1), 6 + 1, none⟩ (.int .i64 po.pos)).heap[w.heap.size]? = some (.cells (rawV ⟨0, false, ⟨0, 0⟩, [], false, ⟨0, 0⟩⟩ (.slice none 0 0)) 55 (0, 0))) := (tc_far (by omega) _).trans ((tc_far (by omega) _).trans ((tc_far (by omega) _).trans r05))
            have O8 : Hid (ClasOwn w.heap.size (((w5.setCell ⟨(w1.heap.size + 1), 5, none⟩ (.bool b)).setCell ⟨(w1.heap.size + 1), 6, none⟩ (.int .i64 po.n)).setCell ⟨(w1.heap.size + 1), 6 + 1, none⟩ (.int .i64 po.pos)) C (.slice o n m)) := clas_set (clas_set (clas_set O5 rP5 _) rP6 _) (tc_row rP6 _) _
            have G8 : Hid (w.grownBy (((w5.setCell ⟨(w1.heap.size + 1), 5, none⟩ (.bool b)).setCell ⟨(w1.heap.size + 1), 6, none⟩ (.int .i64 po.n)).setCell ⟨(w1.heap.size + 1), 6 + 1, none⟩ (.int .i64 po.pos)) (some g)) := gb_setCell (gb_setCell (gb_setCell G5 (.inr (by omega)) _ _) (.inr (by omega)) _ _) (.inr (by omega)) _ _
            have R8 : Hid (Rd W0 (((w5.setCell ⟨(w1.heap.size + 1), 5, none⟩ (.bool b)).setCell ⟨(w1.heap.size + 1), 6, none⟩ (.int .i64 po.n)).setCell ⟨(w1.heap.size + 1), 6 + 1, none⟩ (.int .i64 po.pos)) g E T4) := rd_setCell (rd_setCell (rd_setCell R5 (by omega) (by omega) _ _) (by omega) (by omega) _ _) (by omega) (by omega) _ _
            clear rP5 r05 rP6 G5 O5 R5 hg5 K4
            go_wp2_with (first
              | (refine wl_loadE (E := RawE) RawOk rfl _ rfl (w1.heap.size + 1) 0 rfl _ _ _ (rawV ⟨(t.pos : Int), false, pr, C, b, po⟩ (.slice o n m)) rfl rP8.out (own_cells _ _) ?_)
              | (refine wl_storeE (E := RawE) RawOk rfl _ _ rfl w.heap.size (rawV ⟨(t.pos : Int), false, pr, C, b, po⟩ (.slice o n m)) (raw_fits _ _ ⟨_, _, _, rfl⟩) rfl rfl _ r08.out rfl _ rfl ?_))
            refine retE (E := RawE) RawOk rfl rfl w.heap.size rfl (rawV ⟨(t.pos : Int), false, pr, C, b, po⟩ (.slice o n m)) rfl (setRow_heap _ _ _ _ _ _ r08.out) ?_
            rw [HA2.out]
            exact ⟨gb_setRow G8.out (.inr (Nat.le_refl _)) _, ⟨_, rfl, _, rfl, clas_setRow O8.out r08.out _⟩, rd_setRow R8.out (by omega) (by omega) _⟩
end Go.Proofs.YtbdbjbmjnemknaaDoor
namespace Go.Proofs.YtbdbjbmjnemknaaDoor
open Go Go.RowKit
set_option maxRecDepth 20000

/-- Lines in memory that are one's own. -/
def RawsOwn (B : Nat) (w : World) (L : List Raw) (v : Value) : Prop := NOwn RawE rawV (fun w x u => ClasOwn B w x.clauses u) w B v L
theorem RawsOwn.by {w w' : World} {g B : Nat} (hgr : w.grownBy w' (some g)) (hB : g < B) {L : List Raw} {v : Value} (h : RawsOwn B w L v) : RawsOwn B w' L v := by
  obtain ⟨P, h1, h2, h3⟩ := h
  exact ⟨P, h1, own_by hgr hB h2, fun p hp => (h3 p hp).by hgr hB⟩
theorem RawsOwn.below {w w' : World} {B : Nat} (hb : Below w.heap.size w w') {L : List Raw} {v : Value} (h : RawsOwn B w L v) : RawsOwn B w' L v := by
  obtain ⟨P, h1, h2, h3⟩ := h
  exact ⟨P, h1, gown_below h2 hb, fun p hp => (h3 p hp).below hb⟩
theorem clas_grown {w w' : World} {B B' : Nat} {n : Nat} {v : Value} {xs : List Value} (hown : w.ownsRow B' 55 8 v n xs) (hgr : w.grownBy w' v.ownBlock) {C : List Cla} {u : Value} (h : ClasOwn B w C u) : ClasOwn B w' C u := by
  obtain ⟨P, h1, h2, h3⟩ := h
  exact ⟨P, h1, own_grown hgr h2 (own_apart hown h2 (by decide)), fun p hp => own_grown hgr (h3 p hp) (own_apart hown (h3 p hp) (by decide))⟩
theorem takeL_fuel (E : Nat) : ∀ (f f' : Nat) (had : List Raw) (T : List Tok), T.length < f → T.length < f' → takeL E f had T = takeL E f' had T
  | 0, _, _, _, h, _ => absurd h (by omega)
  | _ + 1, 0, _, _, _, h => absurd h (by omega)
  | f + 1, f' + 1, had, [], _, _ => rfl
  | f + 1, f' + 1, had, t :: T, h, h' => by
    simp only [List.length_cons] at h h'
    rw [takeL, takeL]
    split
    · exact takeL_fuel E f f' had T (by omega) (by omega)
    · split
      · rfl
      · cases hR : takeR E (t :: T) with
        | error x => rfl
        | ok x =>
          obtain ⟨A, t6, B, hT, _, _, _, _⟩ := eats_R (x := x.1) (T' := x.2) hR
          have := congrArg List.length hT
          simp only [List.length_cons, List.length_append] at this
          exact takeL_fuel E f f' _ x.2 (by omega) (by omega)
theorem line_len {E : Nat} {T T' : List Tok} {x : Raw} (h : lineT E T = .ok (x, T')) : T'.length < T.length ∧ ∃ A, T = A ++ T' := by
  unfold lineT at h
  obtain ⟨a, h1, h2⟩ := bind_ok h
  obtain ⟨b, h3, h4⟩ := bind_ok h2
  obtain ⟨c, h5, h6⟩ := map_ok h4
  cases h6
  have e6 := (takeK_in (t := b.1) (T' := b.2) h3).1
  have eA : ∃ A, b.2 = A ++ c.2 := by
    rw [takeA_eq] at h5
    obtain ⟨d, h7, h8⟩ := bind_ok h5
    have e7 := (takeK_in (t := d.1) (T' := d.2) h7).1
    split at h8
    · cases h8; exact ⟨[d.1], e7⟩
    · split at h8
      · obtain ⟨e, h9, h10⟩ := map_ok h8
        cases h10
        obtain ⟨A, hA, _⟩ := eats_F (f := e.1) (T' := e.2) h9
        exact ⟨d.1 :: A, by rw [e7, hA]; rfl⟩
      · cases h8
  have eH : ∃ A, T = A ++ a.2 := by
    cases T with
    | nil => cases h1
    | cons t T =>
      have h1' : (if t.kind = 1 ∧ t.text = wDefault then (.ok ((true, ⟨0, 0⟩, []), T) : Res ((Bool × Fig × List Cla) × List Tok)) else (takeF E (t :: T)).bind fun x => (takeCs E x.2.length [] x.2).map fun y => ((false, x.1, y.1), y.2)) = .ok a := h1
      by_cases hc : t.kind = 1 ∧ t.text = wDefault
      · rw [if_pos hc] at h1'
        cases h1'
        exact ⟨[t], rfl⟩
      · rw [if_neg hc] at h1'
        obtain ⟨d, h7, h8⟩ := bind_ok h1'
        obtain ⟨e, h9, h10⟩ := map_ok h8
        cases h10
        obtain ⟨A, hA, _⟩ := eats_F (f := d.1) (T' := d.2) h7
        obtain ⟨B, hB, _⟩ := eats_Cs (l := e.1) (T' := e.2) h9
        exact ⟨A ++ B, by rw [hA, hB]; simp⟩
  obtain ⟨A, hA⟩ := eA
  obtain ⟨B, hB⟩ := eH
  rw [hB, e6, hA]
  refine ⟨by simp; omega, ⟨B ++ b.1 :: A, by simp⟩⟩
/-- What is asked of the tokens: a word's text stands in a Word alone. -/
def WordT (T : List Tok) : Prop := ∀ t ∈ T, t.text = wDefault → t.kind = 1
theorem rd_cell {W0 w : World} {g E : Nat} {T : List Tok} (h : Rd W0 w g E T) : ∃ o cap, w.cell? ⟨g, 0, none⟩ = some (.slice o T.length cap) := by
  obtain ⟨_, _, v, h2, h3⟩ := h
  obtain ⟨o, cap, rfl, _, _⟩ := h3.slice
  exact ⟨o, cap, by rw [cell_of_row _ _ _ _ _ _ h2]; rfl⟩

set_option maxHeartbeats 8000000 in
theorem lines_any (W0 w : World) (g E : Nat) (T : List Tok) (hTl : T.length ≤ 5000) (hW : WordT T) (h : Rd W0 w g E T) :
    Calls Tryd.prog 22 #[.pointer (some ⟨g, 0, none⟩)] w fun e w' => Took W0 w g E (RawsOwn w.heap.size) ((takeL E (T.length + 1) [] T).map fun l => (l, ([] : List Tok))) e w' := by
  have CP : Hid (∀ W T, Rd W0 W g E T → Calls Tryd.prog 40 #[.pointer (some ⟨g, 0, none⟩)] W fun e w' => e = .returned (.agg (encT (hd E T))) ∧ Below W.heap.size W w') := fun W T h => peek_any W0 W g E T h
  have CK : Hid (∀ W T, Rd W0 W g E T → Calls Tryd.prog 41 #[.pointer (some ⟨g, 0, none⟩), .int .i64 7] W fun e w' => Took W0 W g E (fun _ t v => v = .agg (encT t)) (takeK E 7 T) e w') := fun W T h => take_any W0 W g E 7 (by decide) T h
  have CL : Hid (∀ W t T, (t :: T).length ≤ 5000 → (t.text = wDefault → t.kind = 1) → Rd W0 W g E (t :: T) → Calls Tryd.prog 42 #[.pointer (some ⟨g, 0, none⟩)] W fun e w' => Took W0 W g E (RawR W.heap.size) (lineT E (t :: T)) e w') := fun W t T hl hw h => line_any W0 W g E t T hl hw h
  have hgl := h.size
  have H : Hid (Rd W0 w g E T) := h
  obtain ⟨A, hA⟩ : ∃ A, A = takeL E (T.length + 1) [] T := ⟨_, rfl⟩
  rw [← hA]
  have HA0 : Hid (A = takeL E (T.length + 1) [] T) := hA
  have HW0 : Hid (WordT T) := hW
  clear h hA hW
  go_enter Tryd.func22, Tryd.ntmps22
  go_wp2_with fail
  go_loopw [3] (fun out wr => ∃ (f : Nat) (had : List Raw) (T1 : List Tok), T1.length < f ∧ had.length ≤ 64 ∧ T1.length ≤ 5000 ∧ Hid (WordT T1) ∧ Hid (A = takeL E f had T1) ∧ w.grownBy wr (some g) ∧ Rd W0 wr g E T1 ∧ RawsOwn w.heap.size wr had out) (fun _ wr => restN wr g)
  case atStart => exact ⟨T.length + 1, [], T, by omega, by simp, hTl, HW0, HA0, gb_refl _ _, H.out, NOwn.nil _ _ _ _ _⟩
  case round =>
    obtain ⟨f, had, T1, hf, h64, hl, HW, HA, hg, R1, hown⟩ := hrel
    obtain ⟨o3, cap3, rfl⟩ : ∃ o cap, u3 = .slice o had.length cap := by
      obtain ⟨P, hP, hP2, _⟩ := hown
      obtain ⟨o, cap, e⟩ := gown_slice hP2
      exact ⟨o, cap, by rw [e, ← hP, List.length_map]⟩
    have OWN : Hid (RawsOwn w.heap.size wr had (.slice o3 had.length cap3)) := hown
    have HG : Hid (w.grownBy wr (some g)) := hg
    have HR : Hid (Rd W0 wr g E T1) := R1
    obtain ⟨o, cap, c0⟩ := rd_cell R1
    have HRest : Hid (restN wr g = T1.length) := rest_is R1
    clear hown hg R1 HA0 HW0
    cases T1 with
    | nil =>
      have HA2 : Hid (A = .ok had) := by
        show _ = _
        rw [HA.out]
        cases f with
        | zero => rfl
        | succ f => rfl
      simp only [List.length_nil] at c0
      clear HA
      go_wp2_with fail
      go_ret
      rw [HA2.out]
      exact ⟨HG.out, ⟨_, rfl, OWN.out⟩, HR.out⟩
    | cons t T2 =>
      obtain ⟨f', rfl⟩ : ∃ f', f = f' + 1 := ⟨f - 1, by omega⟩
      simp only [List.length_cons] at c0 hf hl
      have hpos : (0 : Int) < (T2.length : Int) + 1 := by omega
      have HRest2 : Hid (restN wr g = T2.length + 1) := HRest.out
      clear HRest
      go_wp2_with fail
      refine (CP.out _ (t :: T2) HR.out).mono ?_
      rintro e w1 ⟨rfl, hb1⟩
      have hhd : hd E (t :: T2) = t := rfl
      rw [hhd]
      clear hhd c0
      have HR1 : Hid (Rd W0 (w1.alloc (.cells (encT t) 87)) g E (t :: T2)) := (HR.out.below hb1).alloc _
      have HG1 : Hid (w.grownBy (w1.alloc (.cells (encT t) 87)) (some g)) := gb_alloc (grown_trans HG.out (grown_below hb1)) _
      have OWN1 : Hid (RawsOwn w.heap.size (w1.alloc (.cells (encT t) 87)) had (.slice o3 had.length cap3)) := (OWN.out.below hb1).below ((Below.refl _ _).alloc (Nat.le_refl _) _)
      obtain ⟨t0, t1, _, _⟩ := tok_cells (heap_new w1 (.cells (encT t) 87) _ rfl)
      clear hb1
      by_cases hk7 : t.kind = 7
      · have hk' : ((t.kind : Int) == 7) = true := by simp; omega
        have HA2 : Hid (A = takeL E f' had T2) := by show _ = _; rw [HA.out, takeL, if_pos hk7]
        have HK : Hid (takeK E 7 (t :: T2) = .ok (t, T2)) := if_pos hk7
        have HW2 : Hid (WordT T2) := fun u hu => HW.out u (by simp [hu])
        clear hk7 HA
        go_wp2_with (first
          | (refine wl_storeE (E := TokE) TokOk rfl _ _ rfl w1.heap.size (encT t) (tv_fits _ _ _ _) rfl rfl _ (heap_new _ _ _ rfl) rfl _ (setRow_new _ _ _ _ _ rfl) ?_))
        refine (CK.out _ (t :: T2) HR1.out).mono ?_
        rw [HK.out]
        rintro e w2 ⟨hg2, ⟨v, rfl, rfl⟩, R2⟩
        have HR2 : Hid (Rd W0 w2 g E T2) := R2
        have HG2 : Hid (w.grownBy w2 (some g)) := grown_trans HG1.out hg2
        have OWN2 : Hid (RawsOwn w.heap.size w2 had (.slice o3 had.length cap3)) := OWN1.out.by hg2 hgl.2
        clear hg2 R2 t0 t1
        go_wp2_with fail
        go_roundw
        case rel => exact ⟨f', had, T2, by omega, h64, by omega, HW2, HA2, HG2.out, HR2.out, OWN2.out⟩
        case measure => rw [HRest2.out, rest_is HR2.out]; omega
      · have hk' : ((t.kind : Int) == 7) = false := by simp; omega
        by_cases hm : had.length = 64
        · have HA2 : Hid (A = .error (4, t.pos)) := by show _ = _; rw [HA.out, takeL, if_neg hk7, if_pos hm]
          have hm' : ((had.length : Int) == 64) = true := by simp; omega
          clear hk7 hm HA
          go_wp2_with (first
            | (refine wl_storeE (E := TokE) TokOk rfl _ _ rfl w1.heap.size (encT t) (tv_fits _ _ _ _) rfl rfl _ (heap_new _ _ _ rfl) rfl _ (setRow_new _ _ _ _ _ rfl) ?_))
          rw [HA2.out]
          exact ⟨rfl, HG1.out, rfl⟩
        · have HA2 : Hid (A = (takeR E (t :: T2)).bind fun x => takeL E f' (had ++ [x.1]) x.2) := by show _ = _; rw [HA.out, takeL, if_neg hk7, if_neg hm]
          have hm' : ((had.length : Int) == 64) = false := by simp; omega
          have hm2 : had.length + 1 ≤ 64 := by omega
          have HWt : Hid (t.text = wDefault → t.kind = 1) := HW.out t (by simp)
          clear hk7 hm HA
          go_wp2_with (first
            | (refine wl_storeE (E := TokE) TokOk rfl _ _ rfl w1.heap.size (encT t) (tv_fits _ _ _ _) rfl rfl _ (heap_new _ _ _ rfl) rfl _ (setRow_new _ _ _ _ _ rfl) ?_))
          refine (CL.out _ t T2 (by simp; omega) HWt.out HR1.out).mono ?_
          cases hL : lineT E (t :: T2) with
          | error x =>
            obtain ⟨c, q⟩ := x
            have HA3 : Hid (A = .error (c, q)) := by show _ = _; rw [HA2.out, takeR_line, hL]; rfl
            clear hL HA2
            rintro e w2 ⟨hg2, rfl⟩
            go_wp2_with fail
            rw [HA3.out]
            exact ⟨rfl, grown_trans HG1.out hg2, rfl⟩
          | ok x =>
            obtain ⟨x, T3⟩ := x
            obtain ⟨hlen, A3, hT3⟩ := line_len hL
            simp only [List.length_cons] at hlen
            have HA3 : Hid (A = ((takeE T3).map fun u => (x, u)).bind fun x => takeL E f' (had ++ [x.1]) x.2) := by show _ = _; rw [HA2.out, takeR_line, hL]; rfl
            have HW3 : Hid (WordT T3) := fun u hu => HW.out u (by rw [hT3]; simp [hu])
            clear hL HA2 hT3
            rintro e w2 ⟨hg2, ⟨v, rfl, u, rfl, hcl2⟩, R2⟩
            have z1 := HG1.out.size
            have HR2 : Hid (Rd W0 w2 g E T3) := R2
            have HG2 : Hid (w.grownBy w2 (some g)) := grown_trans HG1.out hg2
            have OWN2 : Hid (RawsOwn w.heap.size w2 had (.slice o3 had.length cap3)) := OWN1.out.by hg2 hgl.2
            have HC2 : Hid (ClasOwn w.heap.size w2 x.clauses u) := clas_base hcl2 z1
            obtain ⟨o5, n5, m5, rfl⟩ := clas_slice hcl2
            clear hg2 R2 t0 t1 hcl2
            go_wp2_with (first
              | (refine wl_buildE (E := RawE) RawOk rfl _ rfl (rawV x (.slice o5 n5 m5)) rfl rfl ?_)
              | (at_builtin; refine of_stopT ?_))
            unfold StopT
            obtain ⟨P, hP1, hP2, hP3⟩ := OWN2.out
            have HO6 : Hid ((w2.alloc (.cells (rawV x (.slice o5 n5 m5)) 55)).ownsRow w.heap.size 55 8 (.slice o3 had.length cap3) P.length (gcells (fun p : Raw × Value => rawV p.1 p.2) P)) := hP2.alloc _
            have hPl : P.length = had.length := by rw [← hP1, List.length_map]
            have z5 := HG2.out.size
            refine wl_appendE (E := RawE) RawOk (fun p : Raw × Value => rawV p.1 p.2) rfl _ _ rfl w.heap.size _ P (x, .slice o5 n5 m5) (raw_fits _ _ ⟨_, _, _, rfl⟩) rfl HO6.out _ 1 rfl (heap_new _ _ _ rfl) (by omega) (by simp; omega) ?_
            intro v' w6 hown6 hgr6 _
            have alc : Below w2.heap.size w2 (w2.alloc (.cells (rawV x (.slice o5 n5 m5)) 55)) := (Below.refl _ _).alloc (Nat.le_refl _) _
            have HOWN6 : Hid (RawsOwn w.heap.size w6 (had ++ [x]) v') := NOwn.snoc (E := RawE) (row := rawV) (R := fun w' x u => ClasOwn w.heap.size w' x.clauses u) hP1 hown6 (fun p hp => clas_grown HO6.out hgr6 ((hP3 p hp).below alc)) (clas_grown HO6.out hgr6 (HC2.out.below alc))
            have HG6 : Hid (w.grownBy w6 (some g)) := gb_own (gb_alloc HG2.out _) hgr6 fun k hk => (HO6.out.lt k hk).1
            have R6 : Rd W0 w6 g E T3 := rd_own (HR2.out.alloc _) hgr6 fun k hk => Nat.lt_of_lt_of_le hgl.2 (HO6.out.lt k hk).1
            have HR6 : Hid (Rd W0 w6 g E T3) := R6
            obtain ⟨o7, cap7, c7⟩ := rd_cell R6
            obtain ⟨o6, cap6, rfl⟩ := gown_slice hown6
            clear hown6 hgr6 hP1 hP2 hP3 hPl HO6 alc R6
            simp only [Act.put, List.setIfInBounds_toArray, List.set_cons_succ, List.set_cons_zero]
            cases T3 with
            | nil =>
              have HA4 : Hid (A = takeL E f' (had ++ [x]) []) := HA3.out
              simp only [List.length_nil] at c7
              clear HA3
              go_wp2_with fail
              go_roundw
              case rel => exact ⟨f', had ++ [x], [], by simp; omega, by simp; omega, by simp, HW3, HA4, HG6.out, HR6.out, HOWN6.out⟩
              case measure => rw [HRest2.out, rest_is HR6.out]; simp
            | cons t7 T4 =>
              simp only [List.length_cons] at c7 hlen
              have hpos7 : (0 : Int) < (T4.length : Int) + 1 := by omega
              go_wp2_with fail
              refine (CK.out _ (t7 :: T4) HR6.out).mono ?_
              by_cases hk8 : t7.kind = 7
              · obtain ⟨f2, rfl⟩ : ∃ f2, f' = f2 + 1 := ⟨f' - 1, by omega⟩
                have HK : Hid (takeK E 7 (t7 :: T4) = .ok (t7, T4)) := if_pos hk8
                have HA4 : Hid (A = takeL E f2 (had ++ [x]) T4) := by
                  show _ = _
                  have hE : takeE (t7 :: T4) = .ok (t7 :: T4) := if_pos hk8
                  rw [HA3.out, hE]
                  show takeL E (f2 + 1) (had ++ [x]) (t7 :: T4) = _
                  rw [takeL, if_pos hk8]
                have HW4 : Hid (WordT T4) := fun u hu => HW3.out u (by simp [hu])
                rw [HK.out]
                clear hk8 HA3
                rintro e w8 ⟨hg8, ⟨v, rfl, rfl⟩, R8⟩
                have HR8 : Hid (Rd W0 w8 g E T4) := R8
                have HG8 : Hid (w.grownBy w8 (some g)) := grown_trans HG6.out hg8
                have OWN8 := HOWN6.out.by hg8 hgl.2
                have HOWN8 : Hid (RawsOwn w.heap.size w8 (had ++ [x]) (.slice o6 (P ++ [(x, Value.slice o5 n5 m5)]).length cap6)) := OWN8
                clear hg8 R8 OWN8 c7
                go_wp2_with fail
                go_roundw
                case rel => exact ⟨f2, had ++ [x], T4, by omega, by simp; omega, by omega, HW4, HA4, HG8.out, HR8.out, by have := HOWN8.out; simpa using this⟩
                case measure => rw [HRest2.out, rest_is HR8.out]; omega
              · have HK : Hid (takeK E 7 (t7 :: T4) = .error (8, t7.pos)) := if_neg hk8
                have HA4 : Hid (A = .error (8, t7.pos)) := by
                  show _ = _
                  have hE : takeE (t7 :: T4) = .error (8, t7.pos) := if_neg hk8
                  rw [HA3.out, hE]
                  rfl
                rw [HK.out]
                clear hk8 HA3
                rintro e w8 ⟨hg8, rfl⟩
                go_wp2_with fail
                rw [HA4.out]
                exact ⟨rfl, grown_trans HG6.out hg8, rfl⟩
end Go.Proofs.YtbdbjbmjnemknaaDoor
/-
  The library's contract of stringslite.Clone, laid at this seat's program, and strings.Clone above it.
-/
namespace Go.Proofs
open Go.Shelf
set_option maxRecDepth 20000
def Tryd.lays316_ren : Go.Shelf.Ren := ⟨fun | 316 => 70 | n => n, fun | 37 => 40 | 127 => 80 | n => n, fun | n => n⟩
theorem Tryd.lays316 : Go.Proofs.LaysM.n316 Tryd.prog Tryd.lays316_ren := {
  mixed := by kernel_rfl
  f316 := Tryd.func70.trans (congrArg some (by kernel_rfl))
  t0 := Tryd.underlying0
  a0 := Tryd.isAgg0
  z0 := Tryd.sizeOf0
  v0 := Tryd.zeroValue0
  t3 := Tryd.underlying3
  a3 := Tryd.isAgg3
  z3 := Tryd.sizeOf3
  v3 := Tryd.zeroValue3
  t4 := Tryd.underlying4
  a4 := Tryd.isAgg4
  z4 := Tryd.sizeOf4
  v4 := Tryd.zeroValue4
  t5 := Tryd.underlying5
  a5 := Tryd.isAgg5
  z5 := Tryd.sizeOf5
  v5 := Tryd.zeroValue5
  t9 := Tryd.underlying9
  a9 := Tryd.isAgg9
  z9 := Tryd.sizeOf9
  v9 := Tryd.zeroValue9
  t37 := Tryd.underlying40
  a37 := Tryd.isAgg40
  z37 := Tryd.sizeOf40
  v37 := Tryd.zeroValue40
  t127 := Tryd.underlying80
  a127 := Tryd.isAgg80
  z127 := Tryd.sizeOf80
  v127 := Tryd.zeroValue80
  i0 := by kernel_rfl
  i3 := by kernel_rfl
  i4 := by kernel_rfl
  i5 := by kernel_rfl
  i9 := by kernel_rfl
  i37 := by kernel_rfl
  i127 := by kernel_rfl }
namespace YtbdbjbmjnemknaaDoor
open Go Go.RowKit

theorem clone_in (s : ByteArray) (w : World) (hlim : s.size ≤ 281474976710656) :
    Calls Tryd.prog 70 #[.string s] w fun e w' => e = .returned (.string s) ∧ Below w.heap.size w w' := Any.stringslite_Clone Tryd.lays316 s w hlim

theorem clone_any (s : ByteArray) (w : World) (hlim : s.size ≤ 281474976710656) :
    Calls Tryd.prog 56 #[.string s] w fun e w' => e = .returned (.string s) ∧ Below w.heap.size w w' := by
  have C : Hid (∀ W, Calls Tryd.prog 70 #[.string s] W fun e w' => e = .returned (.string s) ∧ Below W.heap.size W w') := fun W => clone_in s W hlim
  clear hlim
  go_enter Tryd.func56, Tryd.ntmps56
  go_wp2_with fail
  refine (C.out _).mono ?_
  rintro e w1 ⟨rfl, hb1⟩
  go_wp2_with fail
  go_ret
  exact ⟨rfl, hb1⟩
end YtbdbjbmjnemknaaDoor
end Go.Proofs
namespace Go.Proofs.YtbdbjbmjnemknaaDoor
open Go Go.RowKit
set_option maxRecDepth 20000

theorem str_beq (s : ByteArray) (x : List UInt8) : (s.toList == x) = (s.data.toList == x) := by rw [ByteArray.toList_eq]

/-- The sign with which a text begins. -/
def signR (c : UInt8) (r : List UInt8) : Nat × Nat :=
  if c == 46 then (3, 1) else if c == 47 then (4, 1) else if c == 45 then (if r.head? == some 62 then (6, 2) else (5, 1)) else if c == 10 then (7, 1) else (0, 0)

set_option maxHeartbeats 1000000 in
theorem arrow_any (s : ByteArray) (hs : s.size ≤ maxLen) (w : World) :
    Calls Tryd.prog 71 #[.string s, .string ⟨#[45, 62]⟩] w fun e w' => e = .returned (.bool (Lib.hasPrefix s.data.toList [45, 62])) ∧ w' = w := by
  unfold maxLen at hs
  have C : Hid (∀ W, Calls Tryd.prog 80 #[.string s, .string ⟨#[45, 62]⟩] W fun e w' => e = .returned (.bool (Lib.hasPrefix s.data.toList [45, 62])) ∧ w' = W) := fun W => by
    have hr := Lib.hasPrefix_raw s ⟨#[45, 62]⟩
    have hsz : (⟨#[45, 62]⟩ : ByteArray).size = 2 := rfl
    rw [hsz] at hr
    obtain ⟨R, hR⟩ : ∃ R, R = Lib.hasPrefix s.data.toList [45, 62] := ⟨_, rfl⟩
    rw [show (⟨#[45, 62]⟩ : ByteArray).data.toList = [45, 62] from rfl, ← hR] at hr
    rw [← hR]
    clear hR
    by_cases h2 : 2 ≤ s.size
    · have h2' : ((2 : Nat) : Int) ≤ (s.size : Int) := by omega
      rw [decide_eq_true h2, Bool.true_and] at hr
      go_enter Tryd.func80, Tryd.ntmps80
      go_wp2
      go_ret
      exact ⟨ret_bool (by rw [ByteArray.toList_eq ⟨#[45, 62]⟩] at hr; exact hr), rfl⟩
    · have h2' : (s.size : Int) < 2 := by omega
      rw [decide_eq_false h2, Bool.false_and] at hr
      subst hr
      go_enter Tryd.func80, Tryd.ntmps80
      go_wp2
      go_ret
      exact ⟨rfl, rfl⟩
  clear hs
  go_enter Tryd.func71, Tryd.ntmps71
  go_wp2_with fail
  refine (C.out _).mono ?_
  rintro e w1 ⟨rfl, rfl⟩
  go_wp2_with fail
  go_ret
  exact ⟨rfl, rfl⟩

theorem arrow_pre (c : UInt8) (r : List UInt8) : Lib.hasPrefix (c :: r) [45, 62] = (c == 45 && r.head? == some 62) := by
  unfold Lib.hasPrefix
  cases r with
  | nil => simp [List.isPrefixOf]
  | cons d r =>
    simp only [List.isPrefixOf, Bool.and_true, List.head?_cons]
    rw [show (45 == c) = (c == 45) from Bool.beq_comm, show (some d == some 62) = (d == 62) from rfl, show (62 == d) = (d == 62) from Bool.beq_comm]

set_option maxHeartbeats 1000000 in
theorem sign_any (s : ByteArray) (hs : s.size ≤ maxLen) (c : UInt8) (r : List UInt8) (hS : s.data.toList = c :: r) (w : World) :
    Calls Tryd.prog 58 #[.string s] w fun e w' => e = .returned (.tuple #[.int .i64 ((signR c r).1 : Nat), .int .i64 ((signR c r).2 : Nat)]) ∧ w' = w := by
  have h0 : 0 < s.size := by rw [Lib.size_eq, hS]; simp
  have C : Hid (∀ W, Calls Tryd.prog 71 #[.string s, .string ⟨#[45, 62]⟩] W fun e w' => e = .returned (.bool (c == 45 && r.head? == some 62)) ∧ w' = W) := fun W => by
    have := arrow_any s hs W
    rwa [hS, arrow_pre] at this
  have hc : s[0] = c := by
    have := byte_q s 0 h0
    rw [hS] at this
    simpa using this.symm
  have hix : ∀ W, (Instr.index 9 (.string s) (.int .i64 0)).run Tryd.prog W = .ok (.int .u8 (c.toNat : Int)) W := fun W => by
    rw [← hc]
    simp [go_sem, Tryd.underlying9, h0]
  have e1 : ((c.toNat : Int) == 46) = (c == 46) := byte_beq c 46
  have e2 : ((c.toNat : Int) == 47) = (c == 47) := byte_beq c 47
  have e3 : ((c.toNat : Int) == 45) = (c == 45) := byte_beq c 45
  have e4 : ((c.toNat : Int) == 10) = (c == 10) := byte_beq c 10
  unfold signR
  clear hc h0 hS hs
  by_cases c1 : (c == 46) = true
  · rw [c1] at e1
    simp only [c1, if_true]
    go_enter Tryd.func58, Tryd.ntmps58
    go_wp2_with fail
    go_ret2
    exact ⟨rfl, rfl⟩
  have c1' : (c == 46) = false := by simpa using c1
  clear c1
  rw [c1'] at e1
  by_cases c2 : (c == 47) = true
  · rw [c2] at e2
    simp only [c1', c2, if_true, Bool.false_eq_true, if_false]
    go_enter Tryd.func58, Tryd.ntmps58
    go_wp2_with fail
    go_ret2
    exact ⟨rfl, rfl⟩
  have c2' : (c == 47) = false := by simpa using c2
  clear c2
  rw [c2'] at e2
  by_cases c3 : (c == 45) = true
  · rw [c3] at e3
    by_cases c4 : (r.head? == some 62) = true
    · have C' : Hid (∀ W, Calls Tryd.prog 71 #[.string s, .string ⟨#[45, 62]⟩] W fun e w' => e = .returned (.bool true) ∧ w' = W) := by
        have := C.out
        rw [c3, c4] at this
        exact this
      simp only [c1', c2', c3, c4, if_true, Bool.false_eq_true, if_false]
      clear C
      go_enter Tryd.func58, Tryd.ntmps58
      go_wp2_with fail
      refine (C'.out _).mono ?_
      rintro e w1 ⟨rfl, rfl⟩
      go_wp2_with fail
      go_ret2
      exact ⟨rfl, rfl⟩
    · have c4' : (r.head? == some 62) = false := by simpa using c4
      have C' : Hid (∀ W, Calls Tryd.prog 71 #[.string s, .string ⟨#[45, 62]⟩] W fun e w' => e = .returned (.bool false) ∧ w' = W) := by
        have := C.out
        rw [c3, c4'] at this
        exact this
      simp only [c1', c2', c3, c4', if_true, Bool.false_eq_true, if_false]
      clear C c4
      go_enter Tryd.func58, Tryd.ntmps58
      go_wp2_with fail
      refine (C'.out _).mono ?_
      rintro e w1 ⟨rfl, rfl⟩
      go_wp2_with fail
      go_ret2
      exact ⟨rfl, rfl⟩
  have c3' : (c == 45) = false := by simpa using c3
  clear c3
  rw [c3'] at e3
  have C' : Hid (∀ W, Calls Tryd.prog 71 #[.string s, .string ⟨#[45, 62]⟩] W fun e w' => e = .returned (.bool false) ∧ w' = W) := by
    have := C.out
    rw [c3'] at this
    exact this
  clear C
  by_cases c5 : (c == 10) = true
  · rw [c5] at e4
    simp only [c1', c2', c3', c5, if_true, Bool.false_eq_true, if_false]
    go_enter Tryd.func58, Tryd.ntmps58
    go_wp2_with fail
    refine (C'.out _).mono ?_
    rintro e w1 ⟨rfl, rfl⟩
    go_wp2_with fail
    go_ret2
    exact ⟨rfl, rfl⟩
  · have c5' : (c == 10) = false := by simpa using c5
    clear c5
    rw [c5'] at e4
    simp only [c1', c2', c3', c5', Bool.false_eq_true, if_false]
    go_enter Tryd.func58, Tryd.ntmps58
    go_wp2_with fail
    refine (C'.out _).mono ?_
    rintro e w1 ⟨rfl, rfl⟩
    go_wp2_with fail
    go_ret2
    exact ⟨rfl, rfl⟩
end Go.Proofs.YtbdbjbmjnemknaaDoor
namespace Go.Proofs.YtbdbjbmjnemknaaDoor
open Go Go.RowKit
set_option maxRecDepth 20000

/-- A number and what is wrong with it. -/
def numR (D : List UInt8) : Nat × Nat := match numOf D with | some n => (n, 0) | none => (0, 7)
theorem val_app (D : List UInt8) (c : UInt8) : val (D ++ [c]) = val D * 10 + (c.toNat - 48) := by unfold val; rw [List.foldl_append]; rfl
theorem val_grow : ∀ (E : List UInt8) (n : Nat), n ≤ E.foldl (fun n c => n * 10 + (c.toNat - 48)) n
  | [], n => Nat.le_refl n
  | c :: E, n => by
    rw [List.foldl_cons]
    exact Nat.le_trans (by omega) (val_grow E _)
theorem val_mono (D E : List UInt8) : val D ≤ val (D ++ E) := by
  unfold val
  rw [List.foldl_append]
  exact val_grow E _
theorem val_take (D : List UInt8) (k : Nat) (hk : k < D.length) : val (D.take (k + 1)) = val (D.take k) * 10 + (D[k].toNat - 48) := by
  rw [List.take_succ_eq_append_getElem hk, val_app]
theorem val_take_le (D : List UInt8) (k : Nat) : val (D.take k) ≤ val D := by
  have := val_mono (D.take k) (D.drop k)
  rwa [List.take_append_drop] at this

set_option maxHeartbeats 1000000 in
theorem number_any (s : ByteArray) (hs : s.size ≤ maxLen) (h0 : 0 < s.size) (hD : ∀ c ∈ s.data.toList, isDig c = true) (w : World) :
    Calls Tryd.prog 57 #[.string s] w fun e w' => e = .returned (.tuple #[.int .i64 ((numR s.data.toList).1 : Nat), .int .i64 ((numR s.data.toList).2 : Nat)]) ∧ w' = w := by
  unfold maxLen at hs
  have hlen : s.data.toList.length = s.size := (Lib.size_eq s).symm
  obtain ⟨S, hS⟩ : ∃ S, S = s.data.toList := ⟨_, rfl⟩
  have hby : ∀ k (hk : k < s.size), ∃ b : Nat, 48 ≤ b ∧ b ≤ 57 ∧ s[k].toNat = b ∧ val (S.take (k + 1)) = val (S.take k) * 10 + (b - 48) := fun k hk => by
    have hm : s[k] ∈ s.data.toList := List.mem_of_getElem? (byte_q s k hk)
    have := hD _ hm
    unfold isDig at this
    simp only [Bool.and_eq_true, decide_eq_true_eq] at this
    refine ⟨_, this.1, this.2, rfl, ?_⟩
    have hk' : k < S.length := by rw [hS, hlen]; exact hk
    rw [val_take S k hk']
    have e : S[k] = s[k] := by
      have := byte_q s k hk
      rw [← hS, List.getElem?_eq_getElem hk'] at this
      simpa using this
    rw [e]
  have HBY : Hid (∀ k (hk : k < s.size), ∃ b : Nat, 48 ≤ b ∧ b ≤ 57 ∧ s[k].toNat = b ∧ val (S.take (k + 1)) = val (S.take k) * 10 + (b - 48)) := hby
  have hh : S.head? = some s[0] := by
    have := byte_q s 0 h0
    rw [← hS] at this
    rw [List.head?_eq_getElem?]; exact this
  have hz : ((s[0].toNat : Int) == 48) = (S.head? == some 48) := by
    rw [hh]; exact byte_beq s[0] 48
  have hix0 : ∀ W, (Instr.index 9 (.string s) (.int .i64 0)).run Tryd.prog W = .ok (.int .u8 (s[0].toNat : Int)) W := fun W => by
    simp [go_sem, Tryd.underlying9, h0]
  have HL : Hid (S.length = s.size) := by rw [hS]; exact hlen
  rw [← hS]
  obtain ⟨R, hR⟩ : ∃ R, R = numR S := ⟨_, rfl⟩
  have HR : Hid (R = if decide (4294967295 < val S) || (decide (1 < s.size) && S.head? == some 48) then (0, 7) else (val S, 0)) := by
    show R = _
    rw [hR, ← HL.out]
    unfold numR numOf
    split <;> rename_i h1
    · split at h1
      · cases h1
      · obtain rfl := Option.some.inj h1; rw [if_neg (by assumption)]
    · split at h1
      · rw [if_pos (by assumption)]
      · cases h1
  rw [← hR]
  obtain ⟨z0, hz0⟩ : ∃ z0 : Int, z0 = (s[0].toNat : Int) := ⟨_, rfl⟩
  rw [← hz0] at hz hix0
  clear hR hS hD hlen hby hh hz0
  have LOOP : Hid (Hid (R = if decide (4294967295 < val S) then (0, 7) else (val S, 0)) → (1 < (s.size : Int) → (z0 == 48) = false) → Calls Tryd.prog 57 #[.string s] w fun e w' => e = .returned (.tuple #[.int .i64 (R.1 : Nat), .int .i64 (R.2 : Nat)]) ∧ w' = w) := by
    intro HR2 hg
    clear HR hz
    by_cases h1 : 1 < (s.size : Int)
    · have hg1 := hg h1
      clear hg
      go_enter Tryd.func57, Tryd.ntmps57
      go_wp2_with fail
      go_loop [4, 16] (fun v i => ∃ k : Nat, k ≤ s.size ∧ i = .int .i64 (k : Int) ∧ v = .int .i64 ((val (S.take k) : Nat) : Int) ∧ val (S.take k) ≤ 4294967295) (fun _ i => s.size - (intOf i).toNat)
      case atStart => exact ⟨0, Nat.zero_le _, rfl, rfl, Nat.zero_le _⟩
      case round =>
        obtain ⟨k, hk, rfl, rfl, hv⟩ := hrel
        by_cases hlt : k < s.size
        · obtain ⟨b, hb1, hb2, hb3, hb4⟩ := HBY.out k hlt
          have hix : ∀ W, (Instr.index 9 (.string s) (.int .i64 (k : Int))).run Tryd.prog W = .ok (.int .u8 (b : Int)) W := fun W => by
            rw [← hb3]
            simp [go_sem, Tryd.underlying9, hlt]
          obtain ⟨x, hx⟩ : ∃ x, x = val (S.take k) := ⟨_, rfl⟩
          rw [← hx] at hv hb4 ⊢
          obtain ⟨y, hy⟩ : ∃ y, y = x * 10 + (b - 48) := ⟨_, rfl⟩
          have hyz : (x : Int) * 10 + ((b : Int) - 48) = (y : Int) := by omega
          have HB4 : Hid (val (S.take (k + 1)) = y) := by show _ = _; rw [hb4, hy]
          have hlt' : (k : Int) < (s.size : Int) := by omega
          have hy2 : y ≤ 100000000000 := by omega
          clear hb4 hb3 hx hy
          by_cases hbig : 4294967295 < y
          · have HRZ : Hid (R = (0, 7)) := by
              show _ = _
              rw [HR2.out, if_pos]
              have := val_take_le S (k + 1)
              rw [HB4.out] at this
              exact decide_eq_true (by omega)
            go_wp2_with fail
            go_ret2
            exact ⟨by rw [HRZ.out]; rfl, rfl⟩
          · go_wp2_with fail
            go_round
            case rel => exact ⟨k + 1, by omega, by go_num, by rw [HB4.out], by rw [HB4.out]; omega⟩
            case measure => simp [intOf]; omega
        · have hk' : k = s.size := by omega
          have hlt' : (s.size : Int) ≤ (k : Int) := by omega
          have HRZ : Hid (R = (val (S.take k), 0)) := by
            show _ = _
            have e : S.take k = S := by rw [List.take_of_length_le]; rw [HL.out]; omega
            rw [e] at hv ⊢
            rw [HR2.out, if_neg (by simpa using hv)]
          clear hk' hlt
          go_wp2_with fail
          go_ret2
          exact ⟨by rw [HRZ.out]; rfl, rfl⟩
    · clear hg
      go_enter Tryd.func57, Tryd.ntmps57
      go_wp2_with fail
      go_loop [4, 16] (fun v i => ∃ k : Nat, k ≤ s.size ∧ i = .int .i64 (k : Int) ∧ v = .int .i64 ((val (S.take k) : Nat) : Int) ∧ val (S.take k) ≤ 4294967295) (fun _ i => s.size - (intOf i).toNat)
      case atStart => exact ⟨0, Nat.zero_le _, rfl, rfl, Nat.zero_le _⟩
      case round =>
        obtain ⟨k, hk, rfl, rfl, hv⟩ := hrel
        by_cases hlt : k < s.size
        · obtain ⟨b, hb1, hb2, hb3, hb4⟩ := HBY.out k hlt
          have hix : ∀ W, (Instr.index 9 (.string s) (.int .i64 (k : Int))).run Tryd.prog W = .ok (.int .u8 (b : Int)) W := fun W => by
            rw [← hb3]
            simp [go_sem, Tryd.underlying9, hlt]
          obtain ⟨x, hx⟩ : ∃ x, x = val (S.take k) := ⟨_, rfl⟩
          rw [← hx] at hv hb4 ⊢
          obtain ⟨y, hy⟩ : ∃ y, y = x * 10 + (b - 48) := ⟨_, rfl⟩
          have hyz : (x : Int) * 10 + ((b : Int) - 48) = (y : Int) := by omega
          have HB4 : Hid (val (S.take (k + 1)) = y) := by show _ = _; rw [hb4, hy]
          have hlt' : (k : Int) < (s.size : Int) := by omega
          have hy2 : y ≤ 100000000000 := by omega
          clear hb4 hb3 hx hy
          by_cases hbig : 4294967295 < y
          · have HRZ : Hid (R = (0, 7)) := by
              show _ = _
              rw [HR2.out, if_pos]
              have := val_take_le S (k + 1)
              rw [HB4.out] at this
              exact decide_eq_true (by omega)
            go_wp2_with fail
            go_ret2
            exact ⟨by rw [HRZ.out]; rfl, rfl⟩
          · go_wp2_with fail
            go_round
            case rel => exact ⟨k + 1, by omega, by go_num, by rw [HB4.out], by rw [HB4.out]; omega⟩
            case measure => simp [intOf]; omega
        · have hk' : k = s.size := by omega
          have hlt' : (s.size : Int) ≤ (k : Int) := by omega
          have HRZ : Hid (R = (val (S.take k), 0)) := by
            show _ = _
            have e : S.take k = S := by rw [List.take_of_length_le]; rw [HL.out]; omega
            rw [e] at hv ⊢
            rw [HR2.out, if_neg (by simpa using hv)]
          clear hk' hlt
          go_wp2_with fail
          go_ret2
          exact ⟨by rw [HRZ.out]; rfl, rfl⟩
  by_cases h1 : 1 < (s.size : Int)
  · by_cases hzz : (S.head? == some 48) = true
    · have hR2 : R = (0, 7) := by
        rw [HR.out, if_pos]
        rw [hzz, decide_eq_true (by omega : 1 < s.size)]; simp
      subst hR2
      rw [hzz] at hz
      clear HR LOOP
      go_enter Tryd.func57, Tryd.ntmps57
      go_wp2_with fail
      go_ret2
      exact ⟨rfl, rfl⟩
    · have hzz' : (S.head? == some 48) = false := by simpa using hzz
      refine LOOP.out ?_ fun _ => by rw [hz]; exact hzz'
      show R = _
      rw [HR.out, hzz']; simp
  · refine LOOP.out ?_ fun h => absurd h h1
    show R = _
    rw [HR.out, decide_eq_false (by omega : ¬ 1 < s.size)]; simp
end Go.Proofs.YtbdbjbmjnemknaaDoor
namespace Go.Proofs.YtbdbjbmjnemknaaDoor
open Go Go.RowKit
set_option maxRecDepth 20000

/-- What 'first' answers. -/
def FirstR (x : Lx × Nat) (e : Ending) : Prop :=
  match x with
  | (.ok (some (k, t, v)), n) => e = .returned (.tuple #[.agg (tv (k : Nat) 0 ⟨t.toArray⟩ (v : Nat)), .int .i64 ((n + 1 : Nat) : Int), .int .i64 0])
  | (.error er, _) => ∃ k v m : Int, e = .returned (.tuple #[.agg (tv k 0 ⟨#[]⟩ v), .int .i64 m, .int .i64 (er : Nat)])
  | (.ok none, _) => False

theorem abc_str : (⟨#[97, 98, 99, 100, 101, 102, 103, 104, 105, 106, 107, 108, 109, 110, 111, 112, 113, 114, 115, 116, 117, 118, 119, 120, 121, 122]⟩ : ByteArray).data.toList = abcL := rfl
theorem dig_str : (⟨#[48, 49, 50, 51, 52, 53, 54, 55, 56, 57]⟩ : ByteArray).data.toList = digL := rfl
theorem abc_row (s : ByteArray) (hs : s.size ≤ maxLen) (w : World) :
    Calls Tryd.prog 55 #[.string s, .string ⟨#[97, 98, 99, 100, 101, 102, 103, 104, 105, 106, 107, 108, 109, 110, 111, 112, 113, 114, 115, 116, 117, 118, 119, 120, 121, 122]⟩] w fun e w' => e = .returned (.int .i64 ((s.data.toList.takeWhile isLet).length : Nat)) ∧ w' = w :=
  row_any s hs _ isLet (fun c => by rw [abc_str]; exact abc_let c) w
theorem dig_row (s : ByteArray) (hs : s.size ≤ maxLen) (w : World) :
    Calls Tryd.prog 55 #[.string s, .string ⟨#[48, 49, 50, 51, 52, 53, 54, 55, 56, 57]⟩] w fun e w' => e = .returned (.int .i64 ((s.data.toList.takeWhile isDig).length : Nat)) ∧ w' = w :=
  row_any s hs _ isDig (fun c => by rw [dig_str]; exact dig_dig c) w

theorem mk_of_data {s : ByteArray} {x : List UInt8} (h : s.data.toList = x) : s = ⟨x.toArray⟩ := by
  subst h; exact (Lib.mk_data s).symm

theorem dig_all {c : UInt8} {r : List UInt8} (h : isDig c = true) : ∀ b ∈ c :: r.takeWhile isDig, isDig b = true := fun b hb => by
  rcases List.mem_cons.1 hb with rfl | hb
  · exact h
  · exact takeWhile_all _ _ b hb

set_option maxHeartbeats 2000000 in
theorem first_any (s : ByteArray) (hs : s.size ≤ 4096) (c : UInt8) (r : List UInt8) (hS : s.data.toList = c :: r) (hb : isBlank c = false) (hh : (c == 35) = false) (w : World) :
    Calls Tryd.prog 39 #[.string s] w fun e w' => FirstR (lexeme c r) e ∧ Below w.heap.size w w' := by
  have hsz : s.size = r.length + 1 := by rw [Lib.size_eq, hS]; rfl
  have hm : s.size ≤ maxLen := by unfold maxLen; omega
  have C1 : Hid (∀ W, Calls Tryd.prog 55 #[.string s, .string ⟨#[97, 98, 99, 100, 101, 102, 103, 104, 105, 106, 107, 108, 109, 110, 111, 112, 113, 114, 115, 116, 117, 118, 119, 120, 121, 122]⟩] W fun e w' => e = .returned (.int .i64 (((c :: r).takeWhile isLet).length : Nat)) ∧ w' = W) := fun W => by
    rw [← hS]; exact abc_row s hm W
  have C2 : Hid (∀ W, Calls Tryd.prog 55 #[.string s, .string ⟨#[48, 49, 50, 51, 52, 53, 54, 55, 56, 57]⟩] W fun e w' => e = .returned (.int .i64 (((c :: r).takeWhile isDig).length : Nat)) ∧ w' = W) := fun W => by
    rw [← hS]; exact dig_row s hm W
  have C3 : Hid (∀ W, Calls Tryd.prog 58 #[.string s] W fun e w' => e = .returned (.tuple #[.int .i64 ((signR c r).1 : Nat), .int .i64 ((signR c r).2 : Nat)]) ∧ w' = W) := fun W => sign_any s hm c r hS W
  by_cases c1 : isLet c = true
  · have hx : lexeme c r = (Lx.tok 1 (c :: r.takeWhile isLet) 0, (r.takeWhile isLet).length) := by
      unfold lexeme
      simp only [hb, c1, Bool.false_eq_true, if_false, if_true]
    rw [hx]
    clear hx
    have ht : ((c :: r).takeWhile isLet).length = (r.takeWhile isLet).length + 1 := by rw [List.takeWhile_cons, if_pos c1]; rfl
    have hle := takeWhile_le isLet r
    have hd : (s.extract 0 ((r.takeWhile isLet).length + 1)).data.toList = c :: r.takeWhile isLet := by
      rw [Lib.extract_data, hS, List.drop_zero, Nat.sub_zero, List.take_succ_cons, takeWhile_take]
    have hE := mk_of_data hd
    obtain ⟨n, hn⟩ : ∃ n, n = (r.takeWhile isLet).length := ⟨_, rfl⟩
    obtain ⟨t, ht2⟩ : ∃ t, t = c :: r.takeWhile isLet := ⟨_, rfl⟩
    rw [← hn] at ht hle hE
    rw [← ht2] at hE
    rw [ht] at C1
    rw [← hn, ← ht2]
    have C4 : Hid (∀ W, Calls Tryd.prog 56 #[.string (s.extract 0 (n + 1))] W fun e w' => e = .returned (.string (s.extract 0 (n + 1))) ∧ Below W.heap.size W w') := fun W => clone_any _ W (by
      rw [ByteArray.size_extract]; omega)
    clear ht2 hn hd ht c1 hS C2 C3 hb hh hm
    have HE : Hid (s.extract 0 (n + 1) = ⟨t.toArray⟩) := hE
    clear hE
    go_enter Tryd.func39, Tryd.ntmps39
    go_wp2_with fail
    refine (C1.out _).mono ?_
    rintro e w1 ⟨rfl, rfl⟩
    go_wp2_with fail
    refine (C4.out _).mono ?_
    rintro e w2 ⟨rfl, hb2⟩
    rw [HE.out]
    have g2 : w2.heap[w.heap.size]? = some (.cells (tv 0 0 ⟨#[]⟩ 0) 87 (0, 0)) := by rw [hb2.block _ (by simp)]; exact heap_new _ _ _ rfl
    have B2 : Below w.heap.size w w2 := ((Below.refl _ _).alloc (Nat.le_refl _) _).trans (hb2.mono (by simp))
    go_wp2_with (first
      | (refine wl_storeE (E := TokE) TokOk rfl _ _ rfl w.heap.size (tv 1 0 ⟨t.toArray⟩ 0) (tv_fits _ _ _ _) rfl rfl _ g2 rfl _ rfl ?_))
    refine retT (p := 2) (u := 3) (u' := 4) rfl rfl w.heap.size rfl (tv 1 0 ⟨t.toArray⟩ 0) rfl (setRow_heap _ _ _ _ _ _ g2) _ _ rfl rfl ⟨rfl, ?_⟩
    exact below_setRow B2 (Nat.le_refl _) _
  have c1' : isLet c = false := by simpa using c1
  have t1 : ((c :: r).takeWhile isLet).length = 0 := by rw [List.takeWhile_cons, if_neg c1]; rfl
  rw [t1] at C1
  clear t1 c1
  by_cases c2 : isDig c = true
  · have hx : lexeme c r = (match numOf (c :: r.takeWhile isDig) with | some n => Lx.tok 2 [] n | Option.none => Lx.err 7, (r.takeWhile isDig).length) := by
      unfold lexeme
      simp only [hb, c1', c2, Bool.false_eq_true, if_false, if_true]
      rfl
    have ht : ((c :: r).takeWhile isDig).length = (r.takeWhile isDig).length + 1 := by rw [List.takeWhile_cons, if_pos c2]; rfl
    have hle := takeWhile_le isDig r
    have hd : (s.extract 0 ((r.takeWhile isDig).length + 1)).data.toList = c :: r.takeWhile isDig := by
      rw [Lib.extract_data, hS, List.drop_zero, Nat.sub_zero, List.take_succ_cons, takeWhile_take]
    have C4 : Hid (∀ W, Calls Tryd.prog 57 #[.string (s.extract 0 ((r.takeWhile isDig).length + 1))] W fun e w' => e = .returned (.tuple #[.int .i64 ((numR (c :: r.takeWhile isDig)).1 : Nat), .int .i64 ((numR (c :: r.takeWhile isDig)).2 : Nat)]) ∧ w' = W) := fun W => by
      have := number_any (s.extract 0 ((r.takeWhile isDig).length + 1)) (by rw [ByteArray.size_extract]; unfold maxLen; omega) (by rw [ByteArray.size_extract]; omega) (by rw [hd]; exact dig_all c2) W
      rwa [hd] at this
    have HX : Hid (∀ m : Int, FirstR (lexeme c r) (.returned (.tuple #[.agg (tv 2 0 ⟨#[]⟩ ((numR (c :: r.takeWhile isDig)).1 : Nat)), .int .i64 (((r.takeWhile isDig).length + 1 : Nat) : Int), .int .i64 ((numR (c :: r.takeWhile isDig)).2 : Nat)]))) := fun _ => by
      rw [hx]
      unfold numR
      cases numOf (c :: r.takeWhile isDig) with
      | some v => exact rfl
      | none => exact ⟨_, _, _, rfl⟩
    obtain ⟨n, hn⟩ : ∃ n, n = (r.takeWhile isDig).length := ⟨_, rfl⟩
    obtain ⟨R, hR⟩ : ∃ R, R = numR (c :: r.takeWhile isDig) := ⟨_, rfl⟩
    rw [← hR, ← hn] at C4 HX
    rw [← hn] at ht hle
    rw [ht] at C2
    clear hR hn hd ht c2 hS C3 hb hh hm hx
    go_enter Tryd.func39, Tryd.ntmps39
    go_wp2_with fail
    refine (C1.out _).mono ?_
    rintro e w1 ⟨rfl, rfl⟩
    go_wp2_with fail
    refine (C2.out _).mono ?_
    rintro e w1 ⟨rfl, rfl⟩
    go_wp2_with fail
    refine (C4.out _).mono ?_
    rintro e w1 ⟨rfl, rfl⟩
    go_wp2_with (first
      | (refine wl_storeE (E := TokE) TokOk rfl _ _ rfl w.heap.size (tv 2 0 ⟨#[]⟩ (R.1 : Nat)) (tv_fits _ _ _ _) rfl rfl _ (heap_new _ _ _ rfl) rfl _ (setRow_new _ _ _ _ _ rfl) ?_))
    refine retT (p := 2) (u := 3) (u' := 4) rfl rfl w.heap.size rfl (tv 2 0 ⟨#[]⟩ (R.1 : Nat)) rfl (heap_new _ _ _ rfl) _ _ rfl rfl ⟨HX.out 0, ?_⟩
    exact (Below.refl _ _).alloc (Nat.le_refl _) _
  have c2' : isDig c = false := by simpa using c2
  have t2 : ((c :: r).takeWhile isDig).length = 0 := by rw [List.takeWhile_cons, if_neg c2]; rfl
  rw [t2] at C2
  clear t2 c2
  have HX : Hid (if (signR c r).2 = 0 then lexeme c r = (Lx.err 6, 0) else ∃ m, (signR c r).2 = m + 1 ∧ lexeme c r = (Lx.tok (signR c r).1 [] 0, m)) := by
    show ite _ _ _
    unfold lexeme signR
    simp only [hb, c1', c2', Bool.false_eq_true, if_false]
    by_cases k1 : (c == 46) = true
    · simp [k1]
    · have k1' : (c == 46) = false := by simpa using k1
      by_cases k2 : (c == 47) = true
      · simp [k1', k2]
      · have k2' : (c == 47) = false := by simpa using k2
        by_cases k3 : (c == 45) = true
        · by_cases k4 : (r.head? == some 62) = true
          · simp only [k1', k2', k3, k4]; simp
          · have k4' : (r.head? == some 62) = false := by simpa using k4
            simp only [k1', k2', k3, k4']; simp
        · have k3' : (c == 45) = false := by simpa using k3
          by_cases k5 : (c == 10) = true
          · simp [k1', k2', k3', k5]
          · have k5' : (c == 10) = false := by simpa using k5
            simp [k1', k2', k3', k5', hh]
  obtain ⟨R, hR⟩ : ∃ R, R = signR c r := ⟨_, rfl⟩
  rw [← hR] at C3 HX
  clear hR hS hb hh hm c1' c2'
  by_cases h0 : R.2 = 0
  · have HY : Hid (lexeme c r = (Lx.err 6, 0)) := by
      have := HX.out
      rwa [if_pos h0] at this
    rw [HY.out]
    rw [h0] at C3
    clear HX h0
    go_enter Tryd.func39, Tryd.ntmps39
    go_wp2_with fail
    refine (C1.out _).mono ?_
    rintro e w1 ⟨rfl, rfl⟩
    go_wp2_with fail
    refine (C2.out _).mono ?_
    rintro e w1 ⟨rfl, rfl⟩
    go_wp2_with fail
    refine (C3.out _).mono ?_
    rintro e w1 ⟨rfl, rfl⟩
    go_wp2_with (first
      | (refine wl_storeE (E := TokE) TokOk rfl _ _ rfl w.heap.size (tv 0 0 ⟨#[]⟩ 0) (tv_fits _ _ _ _) rfl rfl _ (heap_new _ _ _ rfl) rfl _ (setRow_new _ _ _ _ _ rfl) ?_))
    refine retT (p := 2) (u := 3) (u' := 4) rfl rfl w.heap.size rfl (tv 0 0 ⟨#[]⟩ 0) rfl (heap_new _ _ _ rfl) _ _ rfl rfl ⟨⟨_, _, _, rfl⟩, ?_⟩
    exact (Below.refl _ _).alloc (Nat.le_refl _) _
  · obtain ⟨m, hm, hl⟩ : ∃ m, R.2 = m + 1 ∧ lexeme c r = (Lx.tok R.1 [] 0, m) := by
      have := HX.out
      rwa [if_neg h0] at this
    have hm2 : m ≤ r.length := by have := lexeme_le c r; rw [hl] at this; exact this
    rw [hl]
    rw [hm] at C3
    obtain ⟨k, hk⟩ : ∃ k, k = R.1 := ⟨_, rfl⟩
    rw [← hk] at C3 ⊢
    clear HX h0 hl hm hk
    go_enter Tryd.func39, Tryd.ntmps39
    go_wp2_with fail
    refine (C1.out _).mono ?_
    rintro e w1 ⟨rfl, rfl⟩
    go_wp2_with fail
    refine (C2.out _).mono ?_
    rintro e w1 ⟨rfl, rfl⟩
    go_wp2_with fail
    refine (C3.out _).mono ?_
    rintro e w1 ⟨rfl, rfl⟩
    go_wp2_with (first
      | (refine wl_storeE (E := TokE) TokOk rfl _ _ rfl w.heap.size (tv (k : Nat) 0 ⟨#[]⟩ 0) (tv_fits _ _ _ _) rfl rfl _ (heap_new _ _ _ rfl) rfl _ (setRow_new _ _ _ _ _ rfl) ?_))
    refine retT (p := 2) (u := 3) (u' := 4) rfl rfl w.heap.size rfl (tv (k : Nat) 0 ⟨#[]⟩ 0) rfl (heap_new _ _ _ rfl) _ _ rfl rfl ⟨rfl, ?_⟩
    exact (Below.refl _ _).alloc (Nat.le_refl _) _
end Go.Proofs.YtbdbjbmjnemknaaDoor
namespace Go.Proofs.YtbdbjbmjnemknaaDoor
open Go Go.RowKit
set_option maxRecDepth 20000

/-- What a text comes to: its tokens, or what is wrong with it and where. -/
def lexT (S : List UInt8) : List Tok × Nat × Nat :=
  if 4096 < S.length then ([], 5, 4096) else match lexW 0 S with | .ok l => (l, 0, 0) | .error x => ([], x.1, x.2)

theorem err_ne {c : UInt8} {r : List UInt8} {n e : Nat} (h : lexeme c r = (Lx.err e, n)) : e = 6 ∨ e = 7 :=
  (lexW_error (c :: r) 0 e 0 (lexW_err h)).2.2
theorem lexW_len {S : List UInt8} {l : List Tok} (h : lexW 0 S = .ok l) : l.length ≤ S.length := (lexW_places S 0 l h).2.2

set_option maxHeartbeats 4000000 in
theorem tokens_any (s : ByteArray) (hs : s.size ≤ maxLen) (w : World) :
    Calls Tryd.prog 20 #[.string s] w fun e w' => ∃ u, e = .returned (.tuple #[u, .int .i64 ((lexT s.data.toList).2.1 : Nat), .int .i64 ((lexT s.data.toList).2.2 : Nat)]) ∧
      w'.ownsRow w.heap.size 87 4 u (lexT s.data.toList).1.length (gcells encT (lexT s.data.toList).1) ∧ Below w.heap.size w w' := by
  unfold maxLen at hs
  by_cases h4 : 4096 < s.size
  · have hR : lexT s.data.toList = ([], 5, 4096) := by unfold lexT; rw [if_pos (by rw [← Lib.size_eq]; exact h4)]
    rw [hR]
    have h4' : (s.size : Int) > 4096 := by omega
    clear hR h4
    go_enter Tryd.func20, Tryd.ntmps20
    go_wp2_with fail
    go_step3
    go_wp2_with fail
    rw [Exit.noGoto_ret]
    go_ret3
    exact ⟨_, rfl, World.ownsRow_nil _ _ _ _, Below.refl _ _⟩
  · obtain ⟨S, hS⟩ : ∃ S, S = s.data.toList := ⟨_, rfl⟩
    have hlen : S.length = s.size := by rw [hS]; exact (Lib.size_eq s).symm
    have HR : Hid (lexT S = match lexW 0 S with | .ok l => (l, 0, 0) | .error x => ([], x.1, x.2)) := by
      show _ = _
      unfold lexT
      rw [if_neg (by omega)]
    have HS : Hid (S = s.data.toList) := hS
    rw [← hS]
    obtain ⟨R, hRR⟩ : ∃ R, R = lexT S := ⟨_, rfl⟩
    rw [← hRR] at HR ⊢
    have h4' : ¬ (s.size : Int) > 4096 := by omega
    clear hS hRR
    go_enter Tryd.func20, Tryd.ntmps20
    go_wp2_with fail
    go_step3
    go_wp2_with fail
    go_step3
    go_wp2_with fail
    go_loopw [5, 6] (fun out i wr => ∃ p : Nat, p ≤ s.size ∧ i = .int .i64 (p : Int) ∧ ∃ P : List Tok, P.length ≤ p ∧ Hid (lexW 0 S = glue P (lexW p (S.drop p))) ∧ wr.ownsRow w.heap.size 87 4 out P.length (gcells encT P) ∧ Below w.heap.size w wr) (fun _ i _ => s.size - (intOf i).toNat)
    case atStart => exact ⟨0, Nat.zero_le _, rfl, [], Nat.zero_le _, (glue_nil _).symm, World.ownsRow_nil _ _ _ _, Below.refl _ _⟩
    case round =>
      obtain ⟨p, hp, rfl, P, hPl, HW, hown, hb⟩ := hrel
      have OWN : Hid (wr.ownsRow w.heap.size 87 4 u5 P.length (gcells encT P)) := hown
      clear hown
      by_cases hlt : p < s.size
      · have hlt' : (p : Int) < (s.size : Int) := by omega
        obtain ⟨c, r, hcr⟩ : ∃ c r, S.drop p = c :: r := by
          cases h : S.drop p with
          | nil =>
            have := congrArg List.length h
            rw [List.length_drop] at this
            simp at this
            omega
          | cons c r => exact ⟨c, r, rfl⟩
        have hrl : r.length + 1 + p = s.size := by
          have := congrArg List.length hcr
          rw [List.length_drop] at this
          simp at this
          omega
        have hix : ∀ W, (Instr.index 9 (.string s) (.int .i64 (p : Int))).run Tryd.prog W = .ok (.int .u8 (c.toNat : Int)) W := fun W => by
          have hc : s[p] = c := by
            have h1 := byte_q s p hlt
            rw [← HS.out] at h1
            have h2 : S[p]? = some c := by rw [← List.head?_drop, hcr]; rfl
            rw [h1] at h2
            simpa using h2
          rw [← hc]
          simp [go_sem, Tryd.underlying9, hlt]
        have HD : Hid (∀ n, r.drop n = S.drop (p + 1 + n)) := fun n => by
          have := congrArg (List.drop 1) hcr
          rw [List.drop_drop] at this
          simp only [List.drop_succ_cons, List.drop_zero] at this
          rw [← this, List.drop_drop]
        have HX : Hid ((s.extract p s.size).data.toList = c :: r) := by
          show _ = _
          rw [Lib.extract_data, ← HS.out, hcr, List.take_of_length_le]
          simp; omega
        have hxs : (s.extract p s.size).size ≤ 4096 := by rw [ByteArray.size_extract]; omega
        rw [hcr] at HW
        have e9 : ((c.toNat : Int) == 9) = (c == 9) := byte_beq c 9
        have e13 : ((c.toNat : Int) == 13) = (c == 13) := byte_beq c 13
        have e32 : ((c.toNat : Int) == 32) = (c == 32) := byte_beq c 32
        have e35 : ((c.toNat : Int) == 35) = (c == 35) := byte_beq c 35
        clear hcr hlt
        by_cases hbl : isBlank c = true
        · have hx : lexeme c r = (Lx.none, 0) := lexeme_blank hbl r
          have HW2 : Hid (lexW 0 S = glue P (lexW (p + 1) (S.drop (p + 1)))) := by
            show _ = _
            rw [HW.out, lexW_none hx, HD.out 0]
          unfold isBlank at hbl
          clear HW hx
          by_cases d9 : (c == 9) = true
          · rw [d9] at e9
            clear e13 e32 e35 hbl d9
            go_wp2_with fail
            go_roundw
            case rel => exact ⟨p + 1, by omega, by go_num, P, by omega, HW2, OWN.out, hb⟩
            case measure => simp [intOf]; omega
          · have d9' : (c == 9) = false := by simpa using d9
            rw [d9'] at e9
            by_cases d13 : (c == 13) = true
            · rw [d13] at e13
              clear e32 e35 hbl d9 d9' d13
              go_wp2_with fail
              go_roundw
              case rel => exact ⟨p + 1, by omega, by go_num, P, by omega, HW2, OWN.out, hb⟩
              case measure => simp [intOf]; omega
            · have d13' : (c == 13) = false := by simpa using d13
              rw [d13'] at e13
              have d32 : (c == 32) = true := by simpa [d9', d13'] using hbl
              rw [d32] at e32
              clear e35 hbl d9 d9' d13 d13' d32
              go_wp2_with fail
              go_roundw
              case rel => exact ⟨p + 1, by omega, by go_num, P, by omega, HW2, OWN.out, hb⟩
              case measure => simp [intOf]; omega
        · have hbl' : isBlank c = false := by simpa using hbl
          have h3 : (c == 9) = false ∧ (c == 13) = false ∧ (c == 32) = false := by
            unfold isBlank at hbl'
            simp only [Bool.or_eq_false_iff] at hbl'
            exact ⟨hbl'.1.1, hbl'.1.2, hbl'.2⟩
          rw [h3.1] at e9
          rw [h3.2.1] at e13
          rw [h3.2.2] at e32
          clear hbl h3
          by_cases d35 : (c == 35) = true
          · have hc35 : c = 35 := by simpa using d35
            have hx := lexeme_hash r
            rw [← hc35] at hx
            have C1 : Hid (∀ W, Calls Tryd.prog 38 #[.string (s.extract p s.size)] W fun e w' => e = .returned (.int .i64 (((r.takeWhile notEnd).length + 1 : Nat) : Int)) ∧ w' = W) := fun W => by
              have := remark_any (s.extract p s.size) W
              rwa [HX.out, List.takeWhile_cons, if_pos (by rw [hc35]; decide), List.length_cons] at this
            have HW2 : Hid (lexW 0 S = glue P (lexW (p + 1 + (r.takeWhile notEnd).length) (S.drop (p + 1 + (r.takeWhile notEnd).length)))) := by
              show _ = _
              rw [HW.out, lexW_none hx, HD.out]
            have hle := takeWhile_le notEnd r
            obtain ⟨n, hn⟩ : ∃ n, n = (r.takeWhile notEnd).length := ⟨_, rfl⟩
            rw [← hn] at C1 HW2 hle
            rw [d35] at e35
            clear hn hx hc35 d35 HW
            go_wp2_with fail
            refine (C1.out _).mono ?_
            rintro e w1 ⟨rfl, rfl⟩
            go_wp2_with fail
            go_roundw
            case rel => exact ⟨p + 1 + n, by omega, by go_num, P, by omega, HW2, OWN.out, hb⟩
            case measure => simp [intOf]; omega
          · have d35' : (c == 35) = false := by simpa using d35
            have C1 : Hid (∀ W, Calls Tryd.prog 39 #[.string (s.extract p s.size)] W fun e w' => FirstR (lexeme c r) e ∧ Below W.heap.size W w') := fun W => first_any (s.extract p s.size) hxs c r HX.out hbl' d35' W
            rw [d35'] at e35
            clear d35
            rcases hx : lexeme c r with ⟨x, n⟩
            have HLE : n ≤ r.length := by have := lexeme_le c r; rw [hx] at this; exact this
            rcases x with e | _ | ⟨k, t, v⟩
            · have he := err_ne hx
              have HRR : Hid (R = ([], e, p)) := by
                show _ = _
                rw [HR.out, HW.out, lexW_err hx]
                rfl
              rw [hx] at C1
              clear hx HW d35'
              have hne : ((e : Int) != 0) = true := by simp; omega
              go_wp2_with fail
              refine (C1.out _).mono ?_
              rintro e1 w1 ⟨⟨k, v, m, rfl⟩, hb1⟩
              have B1 := hb.trans (hb1.mono hb.size)
              go_wp2_with (first
                | (refine wl_storeE (E := TokE) TokOk rfl _ _ rfl w1.heap.size (tv k 0 ⟨#[]⟩ v) (tv_fits _ _ _ _) rfl rfl _ (heap_new _ _ _ rfl) rfl _ (setRow_new _ _ _ _ _ rfl) ?_))
              simp only [Exit.noGoto_ret]
              go_ret3
              rw [HRR.out]
              exact ⟨_, rfl, World.ownsRow_nil _ _ _ _, B1.alloc B1.size _⟩
            · exfalso
              rcases lexeme_none hx with ⟨h1, _⟩ | ⟨h1, _⟩
              · rw [h1] at hbl'; cases hbl'
              · rw [h1] at d35'; cases d35'
            · have HW2 : Hid (lexW 0 S = glue (P ++ [⟨k, p, t, v⟩]) (lexW (p + 1 + n) (S.drop (p + 1 + n)))) := by
                show _ = _
                rw [HW.out, lexW_tok hx, HD.out, glue_glue]
              rw [hx] at C1
              have C2 : Hid (∀ W, Calls Tryd.prog 39 #[.string (s.extract p s.size)] W fun e w' => e = .returned (.tuple #[.agg (tv (k : Nat) 0 ⟨t.toArray⟩ (v : Nat)), .int .i64 ((n + 1 : Nat) : Int), .int .i64 0]) ∧ Below W.heap.size W w') := C1.out
              have HP : Hid (P.length ≤ 4096) := by show _ ≤ _; omega
              clear hx HW C1 d35' hbl' HX HD
              go_wp2_with fail
              refine (C2.out _).mono ?_
              rintro e1 w1 ⟨rfl, hb1⟩
              have B1 := hb.trans (hb1.mono hb.size)
              have OWN1 : Hid (w1.ownsRow w.heap.size 87 4 u5 P.length (gcells encT P)) := gown_below OWN.out hb1
              clear OWN hb hb1
              have z1 := B1.size
              have HNE : Hid (u5.ownBlock ≠ some w1.heap.size) := gown_ne OWN1.out (Nat.le_refl _)
              go_wp2_with (first
                | (refine wl_storeE (E := TokE) TokOk rfl _ _ rfl w1.heap.size (tv (k : Nat) 0 ⟨t.toArray⟩ (v : Nat)) (tv_fits _ _ _ _) rfl rfl _ (heap_new _ _ _ rfl) rfl _ (setRow_new _ _ _ _ _ rfl) ?_)
                | (refine wl_loadE (E := TokE) TokOk rfl _ rfl w1.heap.size 0 rfl _ _ _ (tv (k : Nat) (p : Nat) ⟨t.toArray⟩ (v : Nat)) rfl (heap_new _ _ _ rfl) (own_cells _ _) ?_)
                | (refine wl_buildE (E := TokE) TokOk rfl _ rfl (tv (k : Nat) (p : Nat) ⟨t.toArray⟩ (v : Nat)) rfl rfl ?_)
                | (at_builtin; refine of_stopT ?_))
              unfold StopT
              have a1 := heap_new (w1.alloc (.cells ((tv (k : Nat) 0 ⟨t.toArray⟩ (v : Nat)).setIfInBounds 1 (.int .i64 (p : Int))) 87)) (.cells (tv (k : Nat) (p : Nat) ⟨t.toArray⟩ (v : Nat)) 87) (w1.heap.size + 1) (by simp)
              have OWN3 : Hid (((w1.alloc (.cells ((tv (k : Nat) 0 ⟨t.toArray⟩ (v : Nat)).setIfInBounds 1 (.int .i64 (p : Int))) 87)).alloc (.cells (tv (k : Nat) (p : Nat) ⟨t.toArray⟩ (v : Nat)) 87)).ownsRow w.heap.size 87 4 u5 P.length (gcells encT P)) := (OWN1.out.alloc _).alloc _
              have B3 := (B1.alloc B1.size (.cells ((tv (k : Nat) 0 ⟨t.toArray⟩ (v : Nat)).setIfInBounds 1 (.int .i64 (p : Int))) 87)).alloc (by simp; omega) (.cells (tv (k : Nat) (p : Nat) ⟨t.toArray⟩ (v : Nat)) 87)
              refine wl_appendE (E := TokE) TokOk encT rfl _ _ rfl w.heap.size _ P (⟨k, p, t, v⟩ : Tok) (tv_fits _ _ _ _) rfl OWN3.out _ 1 rfl a1 (by have := HP.out; omega) (by simp; omega) ?_
              intro v' w2 hown2 hgr _
              have B4 : Below w.heap.size w w2 := B3.grown hgr (by simp; omega) (fun q hq => (OWN3.out.lt q hq).1)
              have OWN4 : Hid (w2.ownsRow w.heap.size 87 4 v' (P ++ [(⟨k, p, t, v⟩ : Tok)]).length (gcells encT (P ++ [(⟨k, p, t, v⟩ : Tok)]))) := hown2
              simp only [Act.put, List.setIfInBounds_toArray, List.set_cons_succ, List.set_cons_zero]
              clear hown2 hgr a1 OWN3 B3 B1 OWN1
              go_wp2_with fail
              go_roundw
              case rel => exact ⟨p + 1 + n, by omega, by go_num, P ++ [⟨k, p, t, v⟩], by simp; omega, HW2, OWN4.out, B4⟩
              case measure => simp [intOf]; omega
      · have hlt' : (s.size : Int) ≤ (p : Int) := by omega
        have HRR : Hid (R = (P, 0, 0)) := by
          show _ = _
          rw [HR.out, HW.out, List.drop_of_length_le (by omega), lexW_nil]
          simp [glue]
        clear hlt HW
        go_wp2_with fail
        simp only [Exit.noGoto_ret]
        go_ret3
        rw [HRR.out]
        exact ⟨_, rfl, OWN.out, hb⟩
end Go.Proofs.YtbdbjbmjnemknaaDoor
